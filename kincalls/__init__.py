"""Kincalls: words for kin, judged for all families."""
