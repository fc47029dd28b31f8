"""The refusals: one class for each, all of them under KinError."""


class KinError(ValueError):
    """Any refusal."""


class NoFamily(KinError):
    """What was handed in is no family."""


class NotPlain(KinError):
    """The family has a ring."""


class NoName(KinError):
    """What was handed in is no name, or not the name of anyone there."""


class NoSex(KinError):
    """What was handed in is neither he nor she."""


class NoRow(KinError):
    """What was handed in is no row of steps, or not one of the kind asked for."""


class NoSpeech(KinError):
    """What was handed in is no speech."""


class NotSure(KinError):
    """The speech is not sure."""


class NoWord(KinError):
    """What was handed in is no word."""


class TooMany(KinError):
    """The speech leads rows in too many ways for its answers to be told."""


class NoParent(KinError):
    """The parent is not one who can be taken here."""


class Taken(KinError):
    """The name is that of a person who is there."""


class Full(KinError):
    """There are as many persons as there can be."""


class NoDeed(KinError):
    """There is no deed left to undo."""


class NoText(KinError):
    """The text is not written as such texts are."""
