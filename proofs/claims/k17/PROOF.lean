import PyProof.Rows.All
import Wide.All
import OpenK.AllK
import Wide.FinOn
import HandS.ForMost
import HandS.ForExc
import HandS.IsInst
import HandS.ExcIs
import HandS.HotCalls
import HandS.Walk
import HandS.Rev
import HandS.Zip
import HandS.SortRule
import HandS.Wide
import HandS.Conv
import HandS.Flow
import HandS.Style
import KE.GoesZip
import KE.GoesEnum
import KE.GoesMore
import KE.KRevIter
import HandS.RevTup
import HandS.MapObj
import HandS.MapJoin
import KE.KDictZip
import PyProof.ListNew
import PyProof.CollectIter
import HandS.ExcValue
import HandS.OwnEq
import HandS.Defaults
import PySem.Challenge.RW_kincalls_k17_whole_twins_and_undone
import HandS.TupMul
import HandS.DictComp
import HandS.Star
import PyProof.Rows.StrSplitJoin
import PyProof.Rows.StrSplitAre
import HandS.TupAny
set_option Elab.async false
set_option linter.all false
set_option maxRecDepth 100000
set_option maxHeartbeats 2000000
namespace Kin
open PySem PySem.Spec PyProof.Rows L2

/-! ### a list's item read for an operator's store -/
section
variable {X : Cx}
def rGetL (K : PySem.W.Frag) : V → V → Hp → VK → Prop := fun x y H Q => ∃ p xs i v, x = .ref p ∧ y = .int i ∧ SqL K H p xs ∧ 0 ≤ i ∧ xs[i.toNat]? = some v ∧ Q v H
theorem get_list : PGet X (rGetL X.K) := by
  intro pins s σ H o i ov iv Q I ro ri h
  obtain ⟨p, xs, j, z, rfl, rfl, hq, h0, he, q⟩ := h
  cases ro
  obtain ⟨t, rfl⟩ := ri
  obtain ⟨its, r, pl, hz⟩ := I.list hq
  obtain ⟨w, ew, rw'⟩ := r.get he
  have hl := r.length
  have hn := line63
  have hj : j.toNat < xs.length := by
    obtain ⟨h1, _⟩ := List.getElem?_eq_some_iff.mp he
    exact h1
  exact wpAny_getItem_list (x := w) pl.isList h0 (by omega) (by simpa using ew) ⟨z, H, I, rw', q⟩

/-! ### list.count of flat items -/
def rCntF (K : PySem.W.Frag) : V → List V → Hp → VK → Prop := fun x xs H Q => ∃ (p : Addr) (ys : List V) (y : V), x = .ref p ∧ xs = [y] ∧ SqL K H p ys ∧ flatV y = true ∧ ys.all flatV = true ∧ Q (.int (ys.countP fun z => eqV z y : Nat)) H
theorem countP_eqU {x : V} : ∀ {xs : List V} {us : List Value}, Vals xs us → xs.all flatV = true → us.countP (eqU x) = xs.countP fun y => eqV y x
  | _, _, .nil, _ => rfl
  | y :: xs, u :: us, .cons r t, f => by
    rw [List.all_cons, Bool.and_eq_true] at f
    rw [List.countP_cons, List.countP_cons, eqU_of r f.1, countP_eqU t f.2]
theorem mt_countF : MtR X "list.count" (rCntF X.K) := by
  intro pins s σ H x xs v us Q I rx rxs h
  obtain ⟨p, ys, y, rfl, rfl, hs, fy, fys, q⟩ := h
  cases rx
  obtain ⟨u, rfl, ru⟩ := rxs.one
  obtain ⟨its, rv, ⟨⟨cls, dd, data, sl⟩, n, ho, hc, hdn, hd⟩, hlen⟩ := I.list hs
  simp only at hc hd
  subst hc hd
  refine call_meets PySem.F.slot_list_count ⟨_, ho, rfl⟩ PySem.F.entry_list_count (PySem.F.args_list_count_2 _ _)
    (SeqAt.list_countAt p its.toArray n dd sl u (eqU y)) ⟨ho, fun z hz => mem_eqAt ru fy rv fys z (by simpa using hz), ?_⟩
  have ec : its.toArray.toList.countP (eqU y) = ys.countP fun z => eqV z y := countP_eqU rv fys
  refine ⟨.int (ys.countP (fun z => eqV z y) : Nat), H, I.tok _, ⟨s.toks, ?_⟩, q⟩
  show Value.int ((its.toArray.toList.countP (eqU y) : Nat) : Int) s.toks = Value.int ((ys.countP (fun z => eqV z y) : Nat) : Int) s.toks
  rw [ec]
end

/-! ### a call whose callee is an expression: one of several defs -/
/-- the promise goes with the address -/
structure HeldX (P : Program) (w : World) (K : PySem.W.Frag) (mg : Str → Option Value) (base : Heap) (CX : CXT) (k : Nat) (f : Addr) (sp : Sp) : Prop where
  ex : ∃ (fd : FuncData) (ps : List Str), FnOk P w K mg base CX k f fd ps sp ∧ PySem.W.keepIn K (.ref f) = true ∧ Binds K fd ps []
def tCallX (te : TE) (S : Addr → Sp → Prop) (E : L2.St → XK) (t : TA) : TE := fun σ H Q => te σ H fun x H1 => ∃ f sp, x = .ref f ∧ S f sp ∧ t σ H1 fun vs H2 => sp vs H2 Q (E σ)
theorem arm_call_sub (a b : Expr) (p : Pos) (args : List Expr) (keywords : List Keyword) (pos : Pos) (env : Env) : eval (.Call (.Subscript a b p) args keywords pos) env = (do
    callWith pos (← eval (.Subscript a b p) env) [] (backTo pos (starEach args env)) (backToKw pos (keywordEach keywords env))) := rfl
theorem pe_callX {X : Cx} {CX : CXT} {k : Nat} {S : Addr → Sp → Prop} {E : L2.St → XK} {a b e : Expr} {es : List Expr} {te : TE} {t : TA} {p pos : Pos} (hS : ∀ f sp, S f sp → HeldX X.prog X.w X.K X.mg X.base CX k f sp) (hr : Room k X.A)
    (hx : ∀ σ, PassesAt CX X σ (E σ)) (hf : PE X (.Subscript a b p) te) (ha : PA X (e :: es) t) (he : starEach (e :: es) X.env = (false, eval e X.env) :: starEach es X.env := by rfl)
    (hpl : (backTo pos (starEach es X.env)).any (·.1) = false := by rfl) : PE X (.Call (.Subscript a b p) (e :: es) [] pos) (tCallX te S E t) := by
  refine ⟨fun pins s σ H Q I h => ?_⟩
  rw [arm_call_sub]
  refine wpAny_bind (thn (hf.run pins s σ H _ I h) fun u s1 ⟨v, H1, I1, r1, q1⟩ => ?_)
  obtain ⟨f, sp, rfl, hs, ht⟩ := q1
  cases r1
  obtain ⟨fd, ps, F, hk, hb⟩ := (hS f sp hs).ex
  refine PySem.W.callWith_K (h₀ := X.base) I.ok.mod.kin hk (thn (ha.run pos pins s1 σ H1 _ I1 ht) fun us s2 ⟨vs, H2, I2, r, q⟩ => ⟨I2.kIn, ?_⟩) he hpl
  exact run_fnS F hr hb (hx σ) I2 r q

/-! ### defs called with the exception that the suite holds -/
/-- an exception of the class c, not more told of it -/
def Held (c : Value) (o : Obj) : Prop := Zc c none o ∧ ∃ vs, o.data = .fields vs
structure FnP (P : Program) (w : World) (K : PySem.W.Frag) (mg : Str → Option Value) (base : Heap) (k : Nat) (f : Addr) (fd : FuncData) (ps : List Str) (sp : Addr → Value → Sp) : Prop where
  len : ∀ a c vs H Q E, sp a c vs H Q E → vs.length = ps.length
  run : ∀ (A : Around) (outer : List Env) (s : Shared) (H : Hp) (args : Args) (us : List Value) (vs : List V) (Q : VK) (E : XK) (p : Addr × Obj) (c : Value), Held c p.2 → L2H.RoomH k A → L2H.PinOk outer H s p →
    Env0 P w K mg base A outer s H → BindsTo s fd args (ps.zip us) → Vals vs us → sp p.1 c vs H Q E → codeAny (model P w) A (.call (.ref f) args) (CR CX0 outer P w H s Q E) s
theorem fn_ofP {P : Program} {w : World} {K : PySem.W.Frag} {mg : Str → Option Value} {base : Heap} {k : Nat} {f : Addr} {x qual : Str} {st : Stmt} {fd : FuncData} {N ps : List Str} {sp : Addr → Value → Sp}
    (F : Fun K x qual st f fd) (S : FnScope N ps (defScope st)) (len : ∀ a c vs H Q E, sp a c vs H Q E → vs.length = ps.length)
    (hbody : ∀ (cdv : Value) (A : Around) (outer : List Env) (s : Shared) (H : Hp) (vs : List V) (Q : VK) (E : XK) (p : Addr × Obj) (c : Value), Held c p.2 → L2H.RoomH k (A.deeper (envOfC qual (defScope st) s.heap.objs.size f cdv)) → sp p.1 c vs H Q E →
      ∃ t, PSs (L2H.cxH CX0 P w K mg base N qual (defScope st) f cdv A outer s H E p) (defBody st) t ∧ t { nx := fun _ H' => Q .non H', rt := Q } (L2.start N vs) H) :
    FnP P w K mg base (k + 1) f fd ps sp := by
  obtain ⟨oc, od, kV, doc, pm, an, cdv, ct, osl, rfl, lk, hcd⟩ := F.ex
  refine ⟨len, ?_⟩
  intro A outer s H args us vs Q E p c hc hr hpin e0 hb r hsp
  have hin : K.In s.heap := e0.mod.kin.keeps (fun b o e => And.left (e0.bs b o e))
  refine codeAny_call_function hr.depth (hin _ _ lk) rfl S.co S.gen rfl (PySem.W.codeRec_of hin hcd) (hb _ _ _ _ (wpAny_newFunctionEnv_cells S.kind ?_ ?_))
  · rintro ⟨n, v⟩ hy
    exact (S.par n (List.of_mem_zip hy).1).elim .inl fun q => .inr ⟨q, PySem.W.cellsFrom_some _ _ _ (.inl q)⟩
  · intro env he s1 y
    subst he
    refine ⟨(e0.mod.nolimit.keeps (fun b o e => And.left (e0.bs b o e))).keeps y.toInCall.keep, codeAny_func ?_⟩
    obtain ⟨t, ht, hq⟩ := hbody cdv A outer s H vs Q E p c hc (hr.deeper _) hsp
    refine wpAny_mono (ht.run [] s1 (L2.start N vs) H _ (L2H.inv_startH S hpin e0 (len _ _ _ _ _ _ hsp) r y) hq) ?_ (fun _ _ z => z)
    intro fl s' hs
    match fl, hs with
    | .ret u, ⟨v, σ', H', J, rv, z⟩ => exact ⟨v, H', J.os, J.bare, J.base, J.hok, rv, z⟩
    | .next, ⟨σ', H', J, z⟩ => exact ⟨V.non, H', J.os, J.bare, J.base, J.hok, rfl, z⟩
    | .brk, ⟨_, _, _, z⟩ => exact z.elim
    | .cont, ⟨_, _, _, z⟩ => exact z.elim
section
variable {X : Cx} {k : Nat} {f : Addr} {fd : FuncData} {ps : List Str} {sp : Addr → Value → Sp} {x : Str} {q pos : Pos} {e : Expr} {es : List Expr} {t : TA}
/-- a call of such a def within the suite -/
def tCallP (a : Addr) (cls : Value) (d : Option Addr) (sp : Addr → Value → Sp) (t : TA) : TE := fun σ H Q => d = none ∧ t σ H fun vs H1 => sp a cls vs H1 Q E0
theorem pe_callP {a : Addr} {oe : Obj} {cls : Value} {d : Option Addr} (F : FnP X.prog X.w X.K X.mg X.base k f fd ps sp) (hr : L2H.RoomH k X.A) (hp : (a, oe) ∈ X.pn) (hz : Zc cls d oe) (hf : ∃ vs, oe.data = .fields vs) (hg : Gl X x) (hm : X.mg x = some (.ref f))
    (hk : PySem.W.keepIn X.K (.ref f) = true) (hb : Binds X.K fd ps []) (ha : PA X (e :: es) t) (hdb : (x == ("__debug__" : Str)) = false := by decide) (he : starEach (e :: es) X.env = (false, eval e X.env) :: starEach es X.env := by rfl)
    (hpl : (backTo pos (starEach es X.env)).any (·.1) = false := by rfl) : PE X (.Call (.Name x q) (e :: es) [] pos) (tCallP a cls d sp t) := by
  refine ⟨fun pins s σ H Q I h => ?_⟩
  obtain ⟨rfl, h⟩ := h
  refine wpAny_Call_Name_kw (ld_glob I hg hm (PySem.W.callWith_K (h₀ := X.base) I.ok.mod.kin hk (thn (ha.run pos pins s σ H _ I h) ?_) he hpl) hdb)
  rintro us s1 ⟨vs, H1, J, r, h1⟩
  refine ⟨J.kIn, ?_⟩
  have b := hb s1 us J.kIn (by rw [List.append_nil, ← r.length]; exact F.len _ _ _ _ _ _ h1)
  rw [List.append_nil] at b
  obtain ⟨g1, g2, g3, g4, g5⟩ := J.pin (a, oe) (List.mem_append_left _ hp)
  refine wpAny_call (codeAny_mono (F.run X.A X.stack s1 H1 ⟨us, []⟩ us vs Q E0 (a, oe) cls ⟨hz, hf⟩ hr ⟨g1, g2, fun hm => (List.mem_cons.mp (J.stkSub a hm)).elim g3 g4, g5⟩ J.env0 b r h1) ?_)
  intro r s' hq
  match r, hq with
  | .error _, hq => exact hq.elim
  | .ok (.ret _), hq => exact J.after hq
  | .ok .next, hq => exact hq.elim
  | .ok .brk, hq => exact hq.elim
  | .ok .cont, hq => exact hq.elim
end
/-- isinstance(e, c), e the pinned exception, of the class D -/
def rIsP (K : PySem.W.Frag) (D a : Addr) : List V → Hp → VK → Prop := fun xs H Q => ∃ (C : V) (cv : Value) (b : Bool), xs = [.ref a, C] ∧ (∀ u, RelV C u → u = cv) ∧ PySem.W.kitOne K (.ref D) cv = some b ∧ Q (.bl b) H
theorem call_isP {X : Cx} {D : Addr} {p : Addr × Obj} (C : ExcC X.K D) (hp : p ∈ X.pn) (hh : Held (.ref D) p.2) : CallR X (.builtin "isinstance") (rIsP X.K D p.1) := by
  rintro pins s σ H xs us Q I r ⟨c, cv, b, rfl, hcv, e, q⟩
  obtain ⟨⟨h1, h2⟩, vs, hv⟩ := hh
  obtain ⟨u1, u2, rfl, rx, rt⟩ := vals2 r
  cases rx
  cases hcv _ rt
  have J : PySem.W.InstAt s.heap p.1 p.2 D none := ⟨(I.pin p (List.mem_append_left _ hp)).1, h1, by unfold PySem.W.notCls; rw [hv], by rw [h2]; trivial⟩
  exact PySem.W.kia_one (PySem.W.handS_kitx_exc C.hg C.hk C.hs C.hd C.ha C.hn C.ht C.hm) I.kIn J e (fun z => nomatch z) fun tk => ⟨.bl b, H, I.kept (t' := tk) fun _ _ z => z, rfl, q⟩

/-! ### things of any kind, as isinstance(x, str) asks -/
def isStr : V → Bool
  | .str _ => true
  | _ => false
/-- of a known built-in type -/
def Th (K : PySem.W.Frag) (H : Hp) (x : V) : Prop := ∃ n : String, TyX K H x (.type n) ∧ kitB n "str" = some (isStr x)
theorem th_non {K : PySem.W.Frag} {H : Hp} : Th K H .non := ⟨_, .base .non, by decide +kernel⟩
theorem th_bl {K : PySem.W.Frag} {H : Hp} {b : Bool} : Th K H (.bl b) := ⟨_, .base (.bl b), show kitB "bool" "str" = some false by decide +kernel⟩
theorem th_int {K : PySem.W.Frag} {H : Hp} {i : Int} : Th K H (.int i) := ⟨_, .base (.int i), show kitB "int" "str" = some false by decide +kernel⟩
theorem th_str {K : PySem.W.Frag} {H : Hp} {z : Str} : Th K H (.str z) := ⟨_, .base (.str z), show kitB "str" "str" = some true by decide +kernel⟩
theorem th_lst {K : PySem.W.Frag} {H : Hp} {a : Addr} {xs : List V} (h : H a = some (.lst xs)) : Th K H (.ref a) := ⟨_, .base (.lst h), show kitB "list" "str" = some false by decide +kernel⟩
theorem th_tup {K : PySem.W.Frag} {H : Hp} {a : Addr} {xs : List V} (h : H a = some (.tup xs)) : Th K H (.ref a) := ⟨_, .base (.tup h), show kitB "tuple" "str" = some false by decide +kernel⟩
/-! ### the module's constants -/
section
variable {X : Cx} {x : Str} {pos : Pos}
theorem pe_gS {z : Str} {t : Tok} (hg : Gl X x) (hm : X.mg x = some (.str z t)) (hd : (x == ("__debug__" : Str)) = false := by decide) : PE X (.Name x pos) (tC (.str z)) := pe_glob hg hm ⟨_, rfl⟩ hd
theorem pe_gI {i : Int} {t : Tok} (hg : Gl X x) (hm : X.mg x = some (.int i t)) (hd : (x == ("__debug__" : Str)) = false := by decide) : PE X (.Name x pos) (tC (.int i)) := pe_glob hg hm ⟨_, rfl⟩ hd
theorem pe_gR {a : Addr} (hg : Gl X x) (hm : X.mg x = some (.ref a)) (hd : (x == ("__debug__" : Str)) = false := by decide) : PE X (.Name x pos) (tC (.ref a)) := pe_glob (v := .ref a) hg hm rfl hd
end
theorem b_str : bootBuiltins "str" = some (.type "str") := by decide +kernel
theorem b_int : bootBuiltins "int" = some (.type "int") := by decide +kernel
theorem b_tuple : bootBuiltins "tuple" = some (.type "tuple") := by decide +kernel
theorem b_list : bootBuiltins "list" = some (.type "list") := by decide +kernel
theorem b_ValueError : bootBuiltins "ValueError" = some (.type "ValueError") := by decide +kernel
theorem same_upd {H : Hp} {p : Addr} {o : HO} (h : H p = none) : Same H (upd H p o) := fun b x e => by
  rw [upd_ne (ne_of_none e h)]
  exact e
/-! ### comprehensions without a test -/
section
variable {J : It} {n : Nat} {G : Hp → Prop} {Y : Nat → Hp → V → Hp → Prop}
theorem lc_itY (w : Walk J n G Y) {g : TG} {te : TE} {vs : List Nat} {σ : L2.St} {H1 : Hp} {D : Addr} {Qd : Hp → Prop} (Pv : Nat → Hp → Prop) (h0 : Pv 0 (upd H1 D (.lst []))) (hG : ∀ i H, i ≤ n → Pv i H → G H)
    (hs : ∀ i x H H', i < n → Pv i H → Y i H x H' → g x (wipe σ vs) H' fun σ2 H2 => wipe σ2 vs = wipe σ vs ∧ te σ2 H2 fun y H4 => ∃ acc, H4 D = some (.lst acc) ∧ acc.length < sizeLine ∧ Pv (i + 1) (upd H4 D (.lst (acc ++ [y])))) (hd : ∀ H, Pv n H → Qd H) :
    ∃ W : Nat → Nat → Hp → Prop, (∃ m, W 0 m (upd H1 D (.lst []))) ∧ ∀ i m H, W i m H →
      (J.stop i H ∧ Qd H) ∨ (J.go i H ∧ ∃ Nx : Hp → Prop, (∀ H', Nx H' → ∃ m', m' < m ∧ W (i + 1) m' H') ∧ ∀ x H', J.yld i H x H' → g x (wipe σ vs) H' fun σ2 H2 => wipe σ2 vs = wipe σ vs ∧ tYes σ2 H2 fun b H3 =>
        if b = true then te σ2 H3 fun y H4 => ∃ acc, H4 D = some (.lst acc) ∧ acc.length < sizeLine ∧ Nx (upd H4 D (.lst (acc ++ [y]))) else Nx H3) :=
  lc_it (tt := tYes) w Pv h0 hG (fun i x H H' hi p y => hs i x H H' hi p y) hd
end
/-! ### a list of ints as data -/
theorem dp_ints {K : PySem.W.Frag} {H : Hp} : ∀ ns : List Int, DpAll K H (ns.map V.int) (ns.map PyData.int)
  | [] => .nil
  | n :: ns => .cons (.int n) (dp_ints ns)
theorem can_ints : ∀ ns : List Int, PyData.canLayAll0 (ns.map PyData.int) = true
  | [] => rfl
  | n :: ns => by
    rw [List.map_cons]
    show (true && PyData.canLayAll0 (ns.map PyData.int)) = true
    rw [can_ints ns]
    rfl
theorem depth_ints : ∀ ns : List Int, PyData.depthAll (ns.map PyData.int) = 0
  | [] => rfl
  | n :: ns => by
    rw [List.map_cons]
    show max 0 (PyData.depthAll (ns.map PyData.int)) = 0
    rw [depth_ints ns]
    rfl
theorem shaped_ints (ns : List Int) : SeqAt.shaped (.list (ns.map PyData.int)) = true := by
  unfold SeqAt.shaped
  have h1 : PyData.canLay0 (.list (ns.map PyData.int)) = true := can_ints ns
  have h2 : PyData.depth (.list (ns.map PyData.int)) = 1 := by
    show PyData.depthAll (ns.map PyData.int) + 1 = 1
    rw [depth_ints]
  rw [h1, h2]
  rfl
/-! ### the town: [how many cells are gone, what is left of a great one] -/
structure TownAt (H : Hp) (p : Addr) : Prop where
  ex : ∃ i j : Int, 0 ≤ i ∧ H p = some (.lst [.int i, .int j])
/-- all that was tracked, but what stands at p, is as it was -/
def SameBut (p : Addr) (H H' : Hp) : Prop := ∀ b o, b ≠ p → H b = some o → H' b = some o
theorem SameBut.refl (p : Addr) (H : Hp) : SameBut p H H := fun _ _ _ h => h
theorem SameBut.trans {p : Addr} {H H1 H2 : Hp} (a : SameBut p H H1) (b : SameBut p H1 H2) : SameBut p H H2 := fun c o n h => b c o n (a c o n h)
theorem _root_.L2.Same.but {p : Addr} {H H' : Hp} (s : Same H H') : SameBut p H H' := fun b o _ h => s b o h
theorem SameBut.upd {p : Addr} {H H' : Hp} {o : HO} (s : SameBut p H H') : SameBut p H (upd H' p o) := fun b u n h => by
  rw [upd_ne n]
  exact s b u n h
theorem SameBut.lay {p q : Addr} {H H' : Hp} {o : HO} (s : SameBut p H H') (h : H' q = none) : SameBut p H (L2.upd H' q o) := fun b u n e => same_upd h b u (s b u n e)
theorem SameBut.seq {K : PySem.W.Frag} {p : Addr} {H H' : Hp} {a : Addr} {xs : List V} (s : SameBut p H H') (n : a ≠ p) (h : SqL K H a xs) : SqL K H' a xs := by
  rcases h with (h | ⟨o, h⟩) | h
  · exact .inl (.inl (s _ _ n h))
  · exact .inl (.inr ⟨o, s _ _ n h⟩)
  · exact .inr h
/-- a list that is read, whatever becomes of p -/
def Stb (K : PySem.W.Frag) (H : Hp) (p a : Addr) (xs : List V) : Prop := ∀ H', SameBut p H H' → SqL K H' a xs
theorem stb_new {K : PySem.W.Frag} {H : Hp} {p a : Addr} {o : HO} {xs : List V} (h : SqL K H a xs) (n : H p = none) : Stb K (upd H p o) p a xs := by
  intro H' s
  rcases h with (h | ⟨o, h⟩) | h
  · exact .inl (.inl (s _ _ (ne_of_none h n) (by rw [upd_ne (ne_of_none h n)]; exact h)))
  · exact .inl (.inr ⟨o, s _ _ (ne_of_none h n) (by rw [upd_ne (ne_of_none h n)]; exact h)⟩)
  · exact .inr h
theorem Stb.mono {K : PySem.W.Frag} {H H' : Hp} {p a : Addr} {xs : List V} (h : Stb K H p a xs) (s : SameBut p H H') : Stb K H' p a xs := fun H2 s2 => h H2 (s.trans s2)
/-- a draw: a number below m, the town turned -/
def sp_draw (K : PySem.W.Frag) : Sp := fun vs H Q _ => ∃ (a p : Addr) (ns : List Int) (m : Int), vs = [.ref a, .ref p, .int m] ∧ Stb K H p a (ns.map V.int) ∧ ns.length ≤ 63 ∧ TownAt H p ∧ 0 < m ∧ m < 1073741824 ∧
  ∀ H' r, 0 ≤ r → r < m → TownAt H' p → SameBut p H H' → Q (.int r) H'
/-- one of some -/
def sp_pick (K : PySem.W.Frag) : Sp := fun vs H Q _ => ∃ (a p l : Addr) (ns : List Int) (xs : List V), vs = [.ref a, .ref p, .ref l] ∧ Stb K H p a (ns.map V.int) ∧ ns.length ≤ 63 ∧ TownAt H p ∧ SqL K H l xs ∧ l ≠ p ∧ xs ≠ [] ∧ xs.length ≤ 1000 ∧
  ∀ H' x, x ∈ xs → TownAt H' p → SameBut p H H' → Q x H'
/-! ### xs.extend([..]): the heap behind it by what is asked of it -/
theorem Same.ext {H H1 : Hp} {l b : Addr} {o u : HO} (s : Same H H1) (nl : H l = none) (nb : H1 b = none) : Same H (upd (upd H1 b o) l u) := fun c z e => by
  rw [upd_ne (ne_of_none e nl), upd_ne (ne_of_none (s c z e) nb)]
  exact s c z e
theorem ext_step {H H1 : Hp} {l b : Addr} {xs zs : List V} {Q : VK} (s : Same H H1) (nl : H l = none) (e : H1 l = some (.lst xs)) (nb : H1 b = none) (hl : xs.length + zs.length ≤ sizeLine)
    (k : ∀ H2, Same H H2 → H2 l = some (.lst (xs ++ zs)) → Q .non H2) : rExtend (.ref l) [.ref b] (upd H1 b (.lst zs)) Q :=
  ⟨l, b, xs, zs, rfl, rfl, (upd_ne (ne_of_none e nb)).trans e, upd_same, hl, k _ (Same.ext s nl nb) upd_same⟩
/-! ### a text of one sign, so many times -/
def strRep (x : Str) (n : Nat) : Str := ⟨(List.replicate n x.cps).foldl (· ++ ·) #[]⟩
theorem op_mulS {X : Cx} : OpR X (binaryOp .Mult) (fun x y H Q => ∃ (z : Str) (n : Nat), x = .str z ∧ y = .int (n : Nat) ∧ z.length = 1 ∧ 1 < n ∧ n ≤ 100000 ∧ (strRep z n).length ≤ sizeLine ∧ Q (.str (strRep z n)) H) := by
  intro pins s σ H x y v u Q I rx ry h
  obtain ⟨z, n, rfl, rfl, hz, h1, h2, h3, q⟩ := h
  obtain ⟨t, rfl⟩ := rx
  obtain ⟨t', rfl⟩ := ry
  have c1 : ¬ ((n : Int) < 1) := by omega
  have c2 : ((n : Int) == 1 || z.length == 0) = false := by
    rw [hz, Bool.or_eq_false_iff]
    exact ⟨beq_eq_false_iff_ne.mpr (by omega), rfl⟩
  refine PySem.P.mul_str ?_ (fun _ _ => ?_) (fun _ _ => ?_) ?_
  · rw [decide_eq_false (by omega), decide_eq_false (by omega)]
    rfl
  · rw [hz]
    intro hgt
    have h5 : (n : Int) * ((2 ^ 63 - 1) / (n : Int)) ≤ 2 ^ 63 - 1 := Int.mul_ediv_self_le (by omega)
    have h6 : (1 : Int) ≤ (2 ^ 63 - 1) / (n : Int) := Int.le_ediv_of_mul_le (by omega) (by omega)
    have : ((1 : Nat) : Int) > (2 ^ 63 - 1) / (n : Int) := hgt
    omega
  · have e : Int.toNat (n : Int) = n := rfl
    rw [hz, e]
    unfold Builtin.Str.tooLong
    rw [sizeLine_eq]
    exact decide_eq_false (by omega)
  · rw [if_neg c1, if_neg (by rw [c2]; exact Bool.false_ne_true)]
    exact ⟨h3, .str (strRep z n), H, I.tok _, ⟨_, rfl⟩, q⟩
theorem TownAt.but {H H' : Hp} {p : Addr} (t : TownAt H p) (s : Same H H') : TownAt H' p := by
  obtain ⟨i, j, h, e⟩ := t
  exact ⟨i, j, h, s _ _ e⟩
theorem TownAt.lt {H : Hp} {p q : Addr} (t : TownAt H p) (h : H q = none) : p ≠ q := by
  obtain ⟨i, j, _, e⟩ := t
  exact ne_of_none e h
end Kin

set_option maxHeartbeats 2000000
/-! enumerate of a text; zip of a list and a text -/
namespace Kin
open PySem PySem.Spec PyProof.Rows L2
/-- a text's signs, each in a new pair behind its number -/
def ItES (z : Str) : It :=
  ⟨fun i _ => i < z.cps.size, fun i H v H' => ∃ T c, v = .ref T ∧ H T = none ∧ H' = upd H T (.tup [.int (i : Nat), .str ⟨#[c]⟩]) ∧ z.cps[i]? = some c, fun i _ => i = z.cps.size⟩
theorem turn_enumS {P : Program} {w : World} {K : PySem.W.Frag} {elts : List Expr} {kk : Nat} {tpos : Pos} (z : Str) (tz : Tok) (e it : Addr) :
    Turn P w K (.Tuple elts kk tpos) (ItES z) [e, it] e (fun i h => (∃ old, IsEnum h e it ((i : Nat) : Int) old) ∧ h.IsStrIter it (strIterType z) z tz i ∧ e ≠ it) where
  mem := List.mem_cons_self
  obj := by
    rintro i h ⟨⟨old, he⟩, ⟨o, ho, _, hd⟩, _⟩ b hb
    rcases (show b = e ∨ b = it by simpa using hb) with rfl | rfl
    · exact ⟨_, he, fun v q => nomatch q⟩
    · exact ⟨o, ho, fun v q => by rw [hd] at q; cases q⟩
  keep := by
    rintro i h h' ⟨⟨old, he⟩, ⟨o, ho, hc, hd⟩, hne⟩ k
    exact ⟨⟨old, k e List.mem_cons_self _ he⟩, ⟨o, k it (List.mem_cons_of_mem _ List.mem_cons_self) _ ho, hc, hd⟩, hne⟩
  item := by
    rintro X rfl rfl rfl hc i pins s σ H E I hf ⟨⟨old, he⟩, hit, hne⟩ hg
    have hel : e < s.heap.objs.size := Heap.lt_size he
    have hil : it < s.heap.objs.size := by obtain ⟨_, q, _⟩ := hit; exact Heap.lt_size q
    have Dr := Draws.text (prog := X.prog) (w := X.w) (A := X.A.in1) (I.ok.hd hc) it z tz
    refine wpAny_pyNext_enum_itemD Dr he hit hg hne (fun q => hne (List.mem_singleton.mp q)) ?_
    rintro x h' tk ⟨c, u, hx, rfl⟩ ho hit' hT hsz hk
    refine ⟨_, rfl, wpAny_letOwnedTupleGo_enum (s := { s with heap := h', toks := tk + 1 }) ho fun h2 he2 sb => ?_⟩
    have hT2 : h2.get? s.heap.objs.size = some { cls := .type "tuple", data := .seq #[.int i tk, .str ⟨#[c]⟩ u] } := (sb.2 _ (Nat.ne_of_gt hel)).trans hT
    have new : ObjOk X.prog X.w (upd H s.heap.objs.size (.tup [.int (i : Nat), .str ⟨#[c]⟩])) h2 s.heap.objs.size (.tup [.int (i : Nat), .str ⟨#[c]⟩]) :=
      ⟨by show 2 ≤ sizeLine; decide, [.int i tk, .str ⟨#[c]⟩ u], .cons ⟨_, rfl⟩ (.cons ⟨_, rfl⟩ .nil), ⟨_, hT2, rfl, _, rfl⟩⟩
    have J := I.turnedNew (t' := tk + 1) (ch := [e, it]) (fun b ob hb q => (sb.2 b (fun y => hb (by simp [y]))).trans (hk b ob (fun y => hb (by simp [y])) (fun y => hb (by simp [y])) q)) hf (Nat.le_refl _) new
    refine ⟨.ref s.heap.objs.size, _, J, rfl, ⟨_, c, rfl, I.hok.fresh (Nat.le_refl _), rfl, hx⟩, ⟨⟨Value.str ⟨#[c]⟩ u, ?_⟩, ?_, hne⟩, fun b hb => ?_⟩
    · rw [show ((i + 1 : Nat) : Int) = (i : Int) + 1 by omega]
      exact he2
    · obtain ⟨o, q1, q2, q3⟩ := hit'
      exact ⟨o, (sb.2 it (Ne.symm hne)).trans q1, q2, q3⟩
    · have hb' : b < s.heap.objs.size := by
        rcases (show b = e ∨ b = it by simpa using hb) with rfl | rfl
        · exact hel
        · exact hil
      rw [upd_ne (Nat.ne_of_lt hb')]
      exact (hf b hb).1
  done := by
    rintro X rfl rfl rfl hc i pins s σ H E I hf ⟨⟨old, he⟩, hit, hne⟩ hg
    have hg' : i = z.cps.size := hg
    subst hg'
    obtain ⟨f0, f1, f2, f3, f4, f5⟩ := hf it (List.mem_cons_of_mem _ List.mem_cons_self)
    have Dr := Draws.text (prog := X.prog) (w := X.w) (A := X.A.in1) (I.ok.hd hc) it z tz
    exact wpAny_pyNext_enum_endD Dr he hit fun h' hx => ⟨rfl, I.turned (t' := s.toks) (fun b o hb q => hx b o hb q) f0 f1 f3 f4 f5⟩
  self := fun A i s Q E st h => by
    obtain ⟨⟨_, he⟩, _⟩ := st
    exact wpAny_pyIter_enum he h
def iEnumS (ta : TA) : TI := fun σ H R => ta σ H fun vs H1 => ∃ z, vs = [.str z] ∧ R (ItES z) H1
theorem pi_enumS {X : Cx} {e : Expr} {ta : TA} {p pos tpos : Pos} {elts : List Expr} {kk : Nat} (hg : Gl X "enumerate") (hm : X.mg "enumerate" = none) (ha : PA X [e] ta) (hs : starEach [e] X.env = [(false, eval e X.env)] := by rfl) :
    PI X (.Tuple elts kk tpos) (.Call (.Name "enumerate" p) [e] [] pos) (iEnumS ta) := by
  refine ⟨fun pins s σ H R I h => ?_⟩
  refine Call_ (ld_blt I hg hm boot_enumerate (PyProof.Rows.callWith_type1 (thn (ha.run pos pins s σ H _ I h) ?_) hs rfl))
  rintro us s1 ⟨vs, H1, I1, r1, z, rfl, q⟩
  obtain ⟨u, rfl, t, rfl⟩ := vals1 r1
  refine call_enumerate_str fun h' he hit hsz hk => wpAny_pyIter_enum he ?_
  have I2 : Inv X pins σ H1 { s1 with heap := h' } := I1.kept (t' := s1.toks) hk
  refine ⟨s1.heap.objs.size + 1, [s1.heap.objs.size + 1, s1.heap.objs.size], _, _, H1, rfl, I2, turn_enumS z t (s1.heap.objs.size + 1) s1.heap.objs.size, ⟨⟨.none, he⟩, hit, Nat.succ_ne_self _⟩, fun b hb => ?_, q⟩
  have hle : s1.heap.objs.size ≤ b := by
    rcases (show b = s1.heap.objs.size + 1 ∨ b = s1.heap.objs.size by simpa using hb) with rfl | rfl
    · exact Nat.le_add_right _ _
    · exact Nat.le_refl _
  exact I1.fpOk hle (I1.hok.fresh hle)
theorem walk_enumS {z : Str} : Walk (ItES z) z.cps.size (fun _ => True) (fun i H v H' => ∃ T c, v = .ref T ∧ H T = none ∧ H' = upd H T (.tup [.int (i : Nat), .str ⟨#[c]⟩]) ∧ z.cps[i]? = some c) :=
  ⟨fun _ _ hi _ => hi, fun _ _ => rfl, fun _ _ _ _ _ _ y => y⟩
/-! ### zip(list, text) -/
def ItZS (K : PySem.W.Frag) (a : Addr) (z : Str) : It :=
  ⟨fun i H => i < z.cps.size ∧ ∃ (xs : List V) (x : V), SqL K H a xs ∧ xs[i]? = some x,
    fun i H v H' => ∃ T x c, v = .ref T ∧ H T = none ∧ H' = upd H T (.tup [x, .str ⟨#[c]⟩]) ∧ (∀ xs, SqL K H a xs → xs[i]? = some x) ∧ z.cps[i]? = some c,
    fun i H => ∃ xs : List V, SqL K H a xs ∧ i ≤ xs.length ∧ i ≤ z.cps.size ∧ (i = xs.length ∨ i = z.cps.size)⟩
theorem turn_zipS {P : Program} {w : World} {K : PySem.W.Frag} {elts : List Expr} {kk : Nat} {tpos : Pos} {a z TI TO i1 i2 : Addr} (zs : Str) (tz : Tok) (S : ZipSep2 z TI TO i1 i2 [i1, a] [i2]) (hd : [z, TI, TO, i1, i2].Nodup) :
    Turn P w K (.Tuple elts kk tpos) (ItZS K a zs) [z, TI, TO, i1, i2] z
      (fun i h => IsZip h z TI TO .none ∧ IsTupOf2 h TI (.ref i1) (.ref i2) ∧ (∃ x y, IsTupOf2 h TO x y) ∧ h.IsListIter i1 a i ∧ h.IsStrIter i2 (strIterType zs) zs tz i) where
  mem := List.mem_cons_self
  obj := by
    rintro i h ⟨hz, hTI, ⟨x, y, hTO⟩, ⟨o1, e1, _, d1⟩, ⟨o2, e2, _, d2⟩⟩ c hc
    rcases (show c = z ∨ c = TI ∨ c = TO ∨ c = i1 ∨ c = i2 by simpa using hc) with rfl | rfl | rfl | rfl | rfl
    · exact ⟨_, hz, fun v q => nomatch q⟩
    · exact ⟨_, hTI, fun v q => nomatch q⟩
    · exact ⟨_, hTO, fun v q => nomatch q⟩
    · exact ⟨o1, e1, fun v q => by rw [d1] at q; cases q⟩
    · exact ⟨o2, e2, fun v q => by rw [d2] at q; cases q⟩
  keep := by
    rintro i h h' ⟨hz, hTI, ⟨x, y, hTO⟩, h1, ⟨o2, e2, c2, d2⟩⟩ k
    exact ⟨k z (by simp) _ hz, k TI (by simp) _ hTI, ⟨x, y, k TO (by simp) _ hTO⟩, h1.at fun o q => k i1 (by simp) o q, ⟨o2, k i2 (by simp) _ e2, c2, d2⟩⟩
  item := by
    rintro X rfl rfl rfl hc i pins s σ H E I hf ⟨hz, hTI, ⟨x0, y0, hTO⟩, h1, h2⟩ ⟨hlz, xs, x, hqx, hx⟩
    obtain ⟨its, rv, p, _⟩ := I.list hqx
    obtain ⟨u, hu, ru⟩ := rv.get hx
    have hzl : z < s.heap.objs.size := Heap.lt_size hz
    have hli : i < its.toArray.size := by simpa using (List.getElem?_eq_some_iff.mp hu).1
    have D1 := Draws.list (prog := X.prog) (w := X.w) (A := X.A.in1) (I.ok.hd hc) i1 a (fun q => by
      obtain ⟨o, e, hcl, _⟩ := h1
      obtain ⟨o', n, e', hcl', _⟩ := p
      rw [q, e] at e'
      cases e'
      rw [hcl] at hcl'
      exact absurd (Value.type.inj hcl') (by decide)) its.toArray
    have D2 := Draws.text (prog := X.prog) (w := X.w) (A := X.A.in1) (I.ok.hd hc) i2 zs tz
    refine wpAny_pyNext_zipD2_item S D1 D2 hz hTI hTO ⟨h1, p.isList⟩ h2 hli hlz ?_
    rintro v1 v2 h' tk hv1 ⟨c, u2, hv2, rfl⟩ z' TO' ⟨h1', _⟩ h2' hT hsz hk
    have ev : v1 = u := by
      have q1 : its.toArray[i]? = some u := by simpa using hu
      exact Option.some.inj (hv1.symm.trans q1)
    subst ev
    refine ⟨_, rfl, wpAny_letOwnedTupleGo_zip (s := { s with heap := h', toks := tk }) z' fun h3 z3 sb => ?_⟩
    have hT2 : h3.get? s.heap.objs.size = some { cls := .type "tuple", data := .seq #[v1, .str ⟨#[c]⟩ u2] } := (sb.2 _ (Nat.ne_of_gt hzl)).trans hT
    have new : ObjOk X.prog X.w (upd H s.heap.objs.size (.tup [x, .str ⟨#[c]⟩])) h3 s.heap.objs.size (.tup [x, .str ⟨#[c]⟩]) :=
      ⟨by show 2 ≤ sizeLine; decide, [v1, .str ⟨#[c]⟩ u2], .cons ru (.cons ⟨_, rfl⟩ .nil), ⟨_, hT2, rfl, _, rfl⟩⟩
    have J := I.turnedNew (t' := tk) (ch := [z, TI, TO, i1, i2]) (fun b o hb q => (sb.2 b (fun y => hb (by simp [y]))).trans (hk b o (fun y => hb (by simp [y])) (fun y => hb (by simp [y])) (fun y => hb (by simp [y])) (fun y => hb (by simp [y])) q)) hf (Nat.le_refl _) new
    refine ⟨.ref s.heap.objs.size, _, J, rfl, ⟨_, x, c, rfl, I.hok.fresh (Nat.le_refl _), rfl, fun l hl => by rw [I.list_inj hl hqx]; exact hx, hv2⟩, ⟨z3, ?_, ⟨v1, .str ⟨#[c]⟩ u2, ?_⟩, ?_, ?_⟩, fun b hb => ?_⟩
    · exact (sb.2 _ S.TIz).trans (hk _ _ S.TIz S.TITO S.TIi1 S.TIi2 hTI)
    · exact (sb.2 _ S.TOz).trans TO'
    · exact h1'.at fun o q => (sb.2 _ (Ne.symm S.zi1)).trans q
    · obtain ⟨o, q1, q2, q3⟩ := h2'
      exact ⟨o, (sb.2 _ (Ne.symm S.zi2)).trans q1, q2, q3⟩
    · have hlt : b < s.heap.objs.size := by
        rcases (show b = z ∨ b = TI ∨ b = TO ∨ b = i1 ∨ b = i2 by simpa using hb) with rfl | rfl | rfl | rfl | rfl
        · exact hzl
        · exact Heap.lt_size hTI
        · exact Heap.lt_size hTO
        · obtain ⟨_, e1, _⟩ := h1; exact Heap.lt_size e1
        · obtain ⟨_, e2, _⟩ := h2; exact Heap.lt_size e2
      rw [upd_ne (Nat.ne_of_lt hlt)]
      exact (hf b hb).1
  done := by
    rintro X rfl rfl rfl hc i pins s σ H E I hf ⟨hz, hTI, ⟨x0, y0, hTO⟩, h1, h2⟩ ⟨xs, hqx, hl1, hl2, hend⟩
    obtain ⟨its, rv, p, _⟩ := I.list hqx
    have l1 := rv.length
    have D1 := Draws.list (prog := X.prog) (w := X.w) (A := X.A.in1) (I.ok.hd hc) i1 a (fun q => by
      obtain ⟨o, e, hcl, _⟩ := h1
      obtain ⟨o', n, e', hcl', _⟩ := p
      rw [q, e] at e'
      cases e'
      rw [hcl] at hcl'
      exact absurd (Value.type.inj hcl') (by decide)) its.toArray
    have D2 := Draws.text (prog := X.prog) (w := X.w) (A := X.A.in1) (I.ok.hd hc) i2 zs tz
    refine wpAny_pyNext_zipD2_end S D1 D2 hz hTI hTO ⟨h1, p.isList⟩ h2 (by simp; omega) hl2 ?_ fun h' tk hk => ⟨rfl, I.turnedL (t' := tk) (ch := [z, TI, TO, i1, i2]) (fun b o hb q =>
      hk b o (fun y => hb (by simp [y])) (fun y => hb (by simp [y])) (fun y => hb (by simp [y])) (fun y => hb (by simp [y])) q) hf⟩
    rcases hend with q | q
    · exact .inl (by simp; omega)
    · exact .inr q
  self := fun A i s Q E st h => wpAny_pyIter_zip st.1 h
def iZipS (K : PySem.W.Frag) (ta : TA) : TI := fun σ H R => ta σ H fun vs H1 => ∃ a z xs, vs = [.ref a, .str z] ∧ SqL K H1 a xs ∧ R (ItZS K a z) H1
theorem pi_zipS {X : Cx} {e e2 : Expr} {ta : TA} {p pos tpos : Pos} {elts : List Expr} {kk : Nat} (hg : Gl X "zip") (hm : X.mg "zip" = none) (ha : PA X [e, e2] ta)
    (hs : starEach [e, e2] X.env = (false, eval e X.env) :: starEach [e2] X.env := by rfl) (hpl : (backTo pos (starEach [e2] X.env)).any (·.1) = false := by rfl) :
    PI X (.Tuple elts kk tpos) (.Call (.Name "zip" p) [e, e2] [] pos) (iZipS X.K ta) := by
  refine ⟨fun pins s σ H R I h => ?_⟩
  refine Call_ (ld_blt I hg hm PyProof.Rows.boot_zip (PyProof.Rows.callWith_type1 (thn (ha.run pos pins s σ H _ I h) ?_) hs hpl))
  rintro us s1 ⟨vs, H1, I1, r1, a, z, xs, rfl, hqx, q⟩
  obtain ⟨u1, u2, rfl, ra, t, rfl⟩ := vals2 r1
  cases ra
  obtain ⟨its, rv, p1, _⟩ := I1.list hqx
  have la : a < s1.heap.objs.size := p1.lt
  refine zip_begins2 (begins_list a its.toArray) (begins_text z t) p1.isList trivial fun h' hz hTI hTO h1 h2 hsz hk => wpAny_pyIter_zip hz ?_
  have I2 : Inv X pins σ H1 { s1 with heap := h' } := I1.kept (t' := s1.toks) hk
  have S := zip_sep2 (N := s1.heap.objs.size) (fp1 := [a]) (fp2 := []) (fun b hb => by rw [List.mem_singleton.mp hb]; exact la) (fun b hb => by cases hb)
  refine ⟨s1.heap.objs.size + 4, [s1.heap.objs.size + 4, s1.heap.objs.size + 2, s1.heap.objs.size + 3, s1.heap.objs.size, s1.heap.objs.size + 1], _, _, H1, rfl, I2, turn_zipS z t S ?_, ⟨hz, hTI, ⟨_, _, hTO⟩, ⟨_, h1, rfl, rfl⟩, ⟨_, h2, rfl, rfl⟩⟩, fun c hcm => ?_, q⟩
  · simp
  · have hle : s1.heap.objs.size ≤ c := by
      rcases (show c = s1.heap.objs.size + 4 ∨ c = s1.heap.objs.size + 2 ∨ c = s1.heap.objs.size + 3 ∨ c = s1.heap.objs.size ∨ c = s1.heap.objs.size + 1 by simpa using hcm) with z | z | z | z | z
      all_goals rw [z]
      all_goals first | exact Nat.le_add_right _ _ | exact Nat.le_refl _
    exact I1.fpOk hle (I1.hok.fresh hle)
theorem walk_zipS {K : PySem.W.Frag} {a : Addr} {xs : List V} {z : Str} {n : Nat} (hn : n = min xs.length z.cps.size) : Walk (ItZS K a z) n (fun H => SqL K H a xs)
    (fun i H v H' => ∃ T x c, v = .ref T ∧ H T = none ∧ H' = upd H T (.tup [x, .str ⟨#[c]⟩]) ∧ xs[i]? = some x ∧ z.cps[i]? = some c) := by
  subst hn
  refine ⟨fun i _ hi q => ⟨by omega, xs, xs[i]'(by omega), q, List.getElem?_eq_getElem (by omega)⟩, fun _ q => ⟨xs, q, by omega, by omega, by omega⟩, fun i H v H' _ q y => ?_⟩
  obtain ⟨T, x, c, h1, h2, h3, h4, h5⟩ := y
  exact ⟨T, x, c, h1, h2, h3, h4 xs q, h5⟩
end Kin

set_option maxHeartbeats 2000000
/-! sep.join(reversed(list of texts)) -/
namespace Kin
open PySem PySem.Spec PyProof.Rows L2
section
variable {prog : Program} {w : World} {A : Around} {E : Value → Shared → Prop} {s : Shared}
theorem rev_items {its : List Value} {acc : Array Value} (h : ItemsOf (fun i v => its.toArray[its.toArray.size - 1 - i]? = some v) acc its.toArray.size) : acc.toList = its.reverse := by
  obtain ⟨h1, h2⟩ := h
  apply List.ext_getElem?
  intro i
  by_cases hi : i < acc.size
  · have e1 : acc.toList[i]? = some acc[i] := by simp [hi]
    have e2 := h2 i acc[i] (by simp [hi])
    rw [e1, List.getElem?_reverse (by simp at h1; omega)]
    simpa using e2.symm
  · rw [List.getElem?_eq_none (by simpa using hi), List.getElem?_eq_none (by simp at h1 ⊢; omega)]
theorem fit_of {x : Str} {l : List (Str × Tok)} (h : JoinOk x (l.map (·.1)) = true) : Builtin.Str.tooLong ((l.map (·.1)).toArray.foldl (· + ·.length + x.length) 0) = false := by
  unfold JoinOk at h
  rwa [Bool.not_eq_true'] at h
theorem gives_joined {x : Str} : ∀ {l : List (Str × Tok)}, JoinOk x (l.map (·.1)) = true → Gives (joinTail x (strValues l)) (joinMade x l)
  | [], h => gives_joinTail x [] (fit_of h)
  | [p], h => gives_joinTail x [p] (fit_of h)
  | p :: q :: r, h => gives_joinTail x (p :: q :: r) (fit_of h)
theorem join_rev {x : Str} {t : Tok} {l : Addr} {items : List (Str × Tok)} {Q : Value → Shared → Prop} (hh : A.handled = none) (hl : s.heap.IsList l (strValues items).toArray) (hn : items.length ≤ 1000000)
    (hok : JoinOk x (items.reverse.map (·.1)) = true)
    (hq : ∀ h' t' k, (∀ b o, s.heap.get? b = some o → h'.get? b = some o) → Q (.str (Txt.join x (items.reverse.map (·.1))) t') { s with heap := h', toks := k }) :
    wpAny (model prog w) A (call (.type "reversed") [.ref l]) (fun v s1 => wpAny (model prog w) A (call (.builtin "str.join") [.str x t, v]) Q E s1) E s := by
  have hlen : (strValues items).length = items.length := by unfold strValues; rw [List.length_map]
  have hsl := sizeLine_eq
  have ll : l < s.heap.objs.size := by obtain ⟨o, ho, _⟩ := hl; exact Heap.lt_size ho
  refine call_reversed_list hl ?_
  generalize hg : s.heap.push (revObj l (((strValues items).toArray.size : Int) - 1)) = g
  have hit : g.IsRevIter s.heap.objs.size l (((strValues items).toArray.size : Int) - 1) := by rw [← hg]; exact ⟨_, Heap.get?_push_size _ rfl, rfl, rfl⟩
  have hk : ∀ b o, s.heap.get? b = some o → g.get? b = some o := fun b o e => by rw [← hg]; exact Heap.get?_push_of_some _ e
  have hl' : g.IsList l (strValues items).toArray := hl.at fun o e => hk _ _ e
  refine wpAny_call (codeAny_call_builtin PySem.F.slot_str_join.plain PySem.F.entry_str_join (PySem.F.slot_str_join.check _ _ _ _ _ _ _ _ (typeIs_str _ _ _) (PySem.F.args_str_join_2 _ _) ?_))
  rw [join_tree_other]
  refine wpAny_bind (wpAny_typeOf (T := "list_reverseiterator") hit.typeIs ?_)
  refine wpAny_bind (wpAny_tryCatch (wpAny_pyIter_revIter hit ?_))
  refine wpAny_bind (RT.collect_rev (s := { s with heap := g }) hh hit hl' (Nat.ne_of_lt ll) (by rw [List.size_toArray, hlen]; omega) fun h' tk acc hk' ha => ?_)
  rw [rev_items ha]
  have er : (strValues items).reverse = strValues items.reverse := by unfold strValues; rw [List.map_reverse]
  rw [er]
  refine gives_joined hok prog w A (wants Q E) _ (post_join items.reverse ⟨joinFit_length (fit_of hok), fun t' k => hq h' t' k fun b o e => hk' b o ?_ (hk b o e)⟩)
  exact Nat.ne_of_lt (Heap.lt_size e)
end
section
variable {X : Cx}
/-- sep.join(reversed(xs)), xs a list of texts -/
def tJoinRev (K : PySem.W.Frag) (to : TE) (ta : TA) : TE := fun σ H Q => to σ H fun x H1 => (∃ a, x = .str a) ∧ ta σ H1 fun vs H2 => ∃ (a : Str) (q : Addr) (ys : List Str), x = .str a ∧ vs = [.ref q] ∧ SqL K H2 q (ys.map V.str) ∧ ys.length ≤ 1000000 ∧ JoinOk a ys.reverse = true ∧ Q (.str (Txt.join a ys.reverse)) H2
theorem strs_of {ys : List Str} : ∀ {its : List Value}, Vals (ys.map V.str) its → ∃ l : List (Str × Tok), its = strValues l ∧ l.map (·.1) = ys := by
  induction ys with
  | nil =>
    intro its r
    cases r
    exact ⟨[], rfl, rfl⟩
  | cons y ys ih =>
    intro its r
    cases r with
    | cons ry rr =>
      obtain ⟨t, rfl⟩ := ry
      obtain ⟨l, rfl, e⟩ := ih rr
      exact ⟨(y, t) :: l, rfl, by rw [List.map_cons, e]⟩
theorem pe_joinRev {o e : Expr} {to : TE} {ta : TA} {apos pos p pos2 : Pos} (hc : X.calm = true) (ho : PE X o to) (hg : Gl X "reversed") (hm : X.mg "reversed" = none) (ha : PA X [e] ta)
    (hs1 : starEach [.Call (.Name "reversed" p) [e] [] pos2] X.env = [(false, eval (.Call (.Name "reversed" p) [e] [] pos2) X.env)] := by rfl) (hs : starEach [e] X.env = [(false, eval e X.env)] := by rfl)
    (hbase : attributeBase o "join" X.env (eval o X.env) = eval o X.env := by rfl) (hline : (apos.endLine == pos.line) = true := by rfl) :
    PE X (.Call (.Attribute o "join" apos) [.Call (.Name "reversed" p) [e] [] pos2] [] pos) (tJoinRev X.K to ta) := by
  refine ⟨fun pins s σ H Q I h => ?_⟩
  refine PySem.Call_method1 hbase hs1 hline (thn (ho.run pins s σ H _ I h) ?_)
  rintro v s1 ⟨x, H1, I1, r1, ⟨a, rfl⟩, q1⟩
  obtain ⟨t, rfl⟩ := _root_.id r1
  refine ⟨"str", _, PySem.F.plainAttrs_str, PySem.F.slot_str_join, PySem.F.type_str_join, typeIs_str _ _ _, (fun _ e => nomatch e), Calls.callWith_builtin rfl (Calls.evalArgs_plain (Calls.spliced_cons ?_))⟩
  refine wpAny_Call_Name_kw (ld_blt I1 hg hm PyProof.Rows.boot_reversed ?_)
  refine PyProof.Rows.callWith_type1 (thn (ha.run pos2 pins s1 σ H1 _ I1 q1) ?_) hs rfl
  rintro us s2 ⟨vs, H2, I2, r2, a', q, ys, ea, rfl, hq, hl, hok, hQ⟩
  cases ea
  cases r2 with
  | cons r rr =>
    cases rr
    cases r
    obtain ⟨its, rv, pl, _⟩ := I2.list hq
    obtain ⟨l, rfl, el⟩ := strs_of rv
    have hll : l.length = ys.length := by rw [← el, List.length_map]
    have hok' : JoinOk a (l.reverse.map (·.1)) = true := by rw [List.map_reverse, el]; exact hok
    refine wpAny_mono (join_rev (x := a) (t := t) (Q := EP X pins σ Q) (E := X.xe) (I2.ok.hd hc) pl.isList (by omega) hok' fun h' t' k hk => ⟨.str _, H2, I2.kept (t' := k) hk, ⟨t', by rw [List.map_reverse, el]⟩, hQ⟩) (fun v s4 h4 => Calls.spliced_nil h4) fun _ _ z => z
end
end Kin

set_option maxHeartbeats 4000000
/-! list(zip(a, b, c, d)), four lists of one length -/
namespace Kin
open PySem PySem.Spec PyProof.Rows L2
/-! ### the zip object of four list iterators: its cells are c 0 .. c 6 (the iterators, the tuple of them, the tuple it owns, itself) -/
abbrev IsT4 (h : Heap) (T : Addr) (a1 a2 a3 a4 : Value) : Prop := h.get? T = some { cls := .type "tuple", data := .seq #[a1, a2, a3, a4] }
structure Z4 (c : Nat → Addr) (l1 l2 l3 l4 : Addr) (i : Nat) (h : Heap) : Prop where
  ti : IsT4 h (c 4) (.ref (c 0)) (.ref (c 1)) (.ref (c 2)) (.ref (c 3))
  to : ∃ a1 a2 a3 a4, IsT4 h (c 5) a1 a2 a3 a4
  i1 : h.IsListIter (c 0) l1 i
  i2 : h.IsListIter (c 1) l2 i
  i3 : h.IsListIter (c 2) l3 i
  i4 : h.IsListIter (c 3) l4 i
/-- the four lists -/
structure L4 (l1 l2 l3 l4 : Addr) (y1 y2 y3 y4 : Array Value) (h : Heap) : Prop where
  l1 : h.IsList l1 y1
  l2 : h.IsList l2 y2
  l3 : h.IsList l3 y3
  l4 : h.IsList l4 y4
/-- the cells are all different, and none is one of the lists -/
structure Sep (c : Nat → Addr) (l1 l2 l3 l4 : Addr) : Prop where
  ne : ∀ a b, a ≠ b → c a ≠ c b
  n1 : ∀ a, l1 ≠ c a
  n2 : ∀ a, l2 ≠ c a
  n3 : ∀ a, l3 ≠ c a
  n4 : ∀ a, l4 ≠ c a
/-- the heap, but for the zip's own cells -/
def Kept (c : Nat → Addr) (h h' : Heap) : Prop := ∀ b o, (∀ a, a < 7 → b ≠ c a) → h.get? b = some o → h'.get? b = some o
section
variable {prog : Program} {w : World} {A : Around} {E : Value → Shared → Prop} {s : Shared} {c : Nat → Addr} {l1 l2 l3 l4 : Addr} {y1 y2 y3 y4 : Array Value} {i : Nat}
theorem upd4 {T : Addr} {a1 a2 a3 a4 x : Value} {k : Nat} {Q : Unit → Shared → Prop} (hT : IsT4 s.heap T a1 a2 a3 a4)
    (h : ∀ h', h'.get? T = some { cls := .type "tuple", data := .seq ((#[a1, a2, a3, a4] : Array Value).setIfInBounds k x) } → Heap.SameBut T s.heap h' → Q () { s with heap := h' }) :
    wpAny (model prog w) A (updateSeq T (·.setIfInBounds k x)) Q E s := by
  refine wpAny_updateSeq hT rfl (h _ ?_ (Heap.SameBut.update ..))
  rw [Heap.get?_update_self _ hT rfl]
  simp [Obj.mapSeq]
theorem next4_item {x1 x2 x3 x4 : Value} {Q : Value → Shared → Prop} (S : Sep c l1 l2 l3 l4) (hz : IsZip s.heap (c 6) (c 4) (c 5) .none) (Z : Z4 c l1 l2 l3 l4 i s.heap) (L : L4 l1 l2 l3 l4 y1 y2 y3 y4 s.heap) (e1 : y1[i]? = some x1) (e2 : y2[i]? = some x2) (e3 : y3[i]? = some x3) (e4 : y4[i]? = some x4)
    (hQ : ∀ h' tk, IsZipHeld h' (c 6) (c 4) (c 5) s.heap.objs.size false → Z4 c l1 l2 l3 l4 (i + 1) h' → IsT4 h' s.heap.objs.size x1 x2 x3 x4 →
      h'.objs.size = s.heap.objs.size + 1 → Kept c s.heap h' → Q (.ref s.heap.objs.size) { s with heap := h', toks := tk }) :
    wpAny (model prog w) A (Builtin.«zip.__next__» ⟨[.ref (c 6)], []⟩) (fun fin s' => ∃ v, fin = .done (.ret v) ∧ Q v s') E s := by
  obtain ⟨hp, g, d, tk0, os⟩ := s
  obtain ⟨hTI, ⟨a1, a2, a3, a4, hTO⟩, hi1, hi2, hi3, hi4⟩ := Z
  obtain ⟨hl1, hl2, hl3, hl4⟩ := L
  have hz : IsZip hp (c 6) (c 4) (c 5) .none := hz
  have hTI : IsT4 hp (c 4) (.ref (c 0)) (.ref (c 1)) (.ref (c 2)) (.ref (c 3)) := hTI
  have hTO : IsT4 hp (c 5) a1 a2 a3 a4 := hTO
  show wpAny _ _ (field (.ref (c 6)) 2 >>= _) _ _ _
  refine wpAny_bind (wpAny_field hz rfl (x := .bool false) rfl ?_)
  show wpAny _ _ (field (.ref (c 6)) 3 >>= _) _ _ _
  refine wpAny_bind (wpAny_field hz rfl (x := .ref (c 4)) rfl ?_)
  refine wpAny_bind (wpAny_seqItems hTI rfl ?_)
  show wpAny _ _ (Builtin.SmallTypes.ownedTupleIsFree (.ref (c 6)) >>= _) _ _ _
  refine wpAny_bind ?_
  unfold Builtin.SmallTypes.ownedTupleIsFree
  refine wpAny_bind (wpAny_field hz rfl (x := .none) rfl (wpAny_pure ?_))
  simp only [if_true]
  refine wpAny_bind (wpAny_rule ?_)
  refine wpAny_bind (wpAny_field hz rfl (x := .ref (c 5)) rfl ?_)
  refine wpAny_bind (wpAny_setField_rec hz (by simp) fun g0 hz0 hs0 => ?_)
  replace hz0 : IsZip g0 (c 6) (c 4) (c 5) .ellipsis := hz0
  replace hs0 : Heap.SameBut (c 6) hp g0 := hs0
  have hTO0 : IsT4 g0 (c 5) a1 a2 a3 a4 := (hs0.2 _ (S.ne _ _ (by decide))).trans hTO
  have hi1_0 : g0.IsListIter (c 0) l1 i := hi1.at fun o q => (hs0.2 _ (S.ne _ _ (by decide))).trans q
  have hl1_0 : g0.IsList l1 y1 := hl1.at fun o q => (hs0.2 _ (S.n1 _)).trans q
  have hi2_0 : g0.IsListIter (c 1) l2 i := hi2.at fun o q => (hs0.2 _ (S.ne _ _ (by decide))).trans q
  have hl2_0 : g0.IsList l2 y2 := hl2.at fun o q => (hs0.2 _ (S.n2 _)).trans q
  have hi3_0 : g0.IsListIter (c 2) l3 i := hi3.at fun o q => (hs0.2 _ (S.ne _ _ (by decide))).trans q
  have hl3_0 : g0.IsList l3 y3 := hl3.at fun o q => (hs0.2 _ (S.n3 _)).trans q
  have hi4_0 : g0.IsListIter (c 3) l4 i := hi4.at fun o q => (hs0.2 _ (S.ne _ _ (by decide))).trans q
  have hl4_0 : g0.IsList l4 y4 := hl4.at fun o q => (hs0.2 _ (S.n4 _)).trans q
  have hsz0 : g0.objs.size = hp.objs.size := hs0.1
  have hk0 : Kept c hp g0 := fun b o hb q => (hs0.2 b (hb 6 (by decide))).trans q
  have hti0 : IsT4 g0 (c 4) (.ref (c 0)) (.ref (c 1)) (.ref (c 2)) (.ref (c 3)) := (hs0.2 _ (S.ne _ _ (by decide))).trans hTI
  clear hs0 hz hTI hTO
  refine wpAny_bind ?_
  simp only [List.zipIdx_cons, List.zipIdx_nil, List.forIn_cons, List.forIn_nil]
  -- the iterator 1
  refine wpAny_bind (wpAny_bind (wpAny_onRaise ?_))
  show wpAny _ _ (Builtin.SmallTypes.nextOf (.ref (c 0)) >>= _) _ _ ⟨g0, g, d, tk0, os⟩
  refine wpAny_bind (wpAny_nextOf_list_item (s := ⟨g0, g, d, tk0, os⟩) hi1_0 hl1_0 e1 fun q1 hi1_q hs1 => wpAny_pure ?_)
  replace hs1 : Heap.SameBut (c 0) g0 q1 := hs1
  have hU1 : IsT4 q1 (c 5) a1 a2 a3 a4 := (hs1.2 _ (S.ne _ _ (by decide))).trans hTO0
  refine wpAny_bind (wpAny_seqItems (s := ⟨q1, g, d, tk0, os⟩) hU1 rfl ?_)
  refine wpAny_bind (upd4 (s := ⟨q1, g, d, tk0, os⟩) hU1 fun g1 hTO1 hr1 => ?_)
  replace hTO1 : IsT4 g1 (c 5) x1 a2 a3 a4 := hTO1
  replace hr1 : Heap.SameBut (c 5) q1 g1 := hr1
  have hz1 : IsZip g1 (c 6) (c 4) (c 5) .ellipsis := (hr1.2 _ (S.ne _ _ (by decide))).trans ((hs1.2 _ (S.ne _ _ (by decide))).trans hz0)
  have hsz1 : g1.objs.size = hp.objs.size := by rw [hr1.1, hs1.1, hsz0]
  have hk1 : Kept c hp g1 := fun b o hb q => (hr1.2 b (hb 5 (by decide))).trans ((hs1.2 b (hb 0 (by decide))).trans (hk0 b o hb q))
  have hi1_1 : g1.IsListIter (c 0) l1 (i + 1) := hi1_q.at fun o q => (hr1.2 _ (S.ne _ _ (by decide))).trans q
  have hi2_1 : g1.IsListIter (c 1) l2 i := hi2_0.at fun o q => (hr1.2 _ (S.ne _ _ (by decide))).trans ((hs1.2 _ (S.ne _ _ (by decide))).trans q)
  have hl2_1 : g1.IsList l2 y2 := hl2_0.at fun o q => (hr1.2 _ (S.n2 _)).trans ((hs1.2 _ (S.n2 _)).trans q)
  have hi3_1 : g1.IsListIter (c 2) l3 i := hi3_0.at fun o q => (hr1.2 _ (S.ne _ _ (by decide))).trans ((hs1.2 _ (S.ne _ _ (by decide))).trans q)
  have hl3_1 : g1.IsList l3 y3 := hl3_0.at fun o q => (hr1.2 _ (S.n3 _)).trans ((hs1.2 _ (S.n3 _)).trans q)
  have hi4_1 : g1.IsListIter (c 3) l4 i := hi4_0.at fun o q => (hr1.2 _ (S.ne _ _ (by decide))).trans ((hs1.2 _ (S.ne _ _ (by decide))).trans q)
  have hl4_1 : g1.IsList l4 y4 := hl4_0.at fun o q => (hr1.2 _ (S.n4 _)).trans ((hs1.2 _ (S.n4 _)).trans q)
  have hti1 : IsT4 g1 (c 4) (.ref (c 0)) (.ref (c 1)) (.ref (c 2)) (.ref (c 3)) := (hr1.2 _ (S.ne _ _ (by decide))).trans ((hs1.2 _ (S.ne _ _ (by decide))).trans hti0)
  clear hs1 hr1 hU1 hz0 hk0 hsz0 hTO0
  refine wpAny_bind (wpAny_letGo (wpAny_pure ?_))
  -- the iterator 2
  refine wpAny_bind (wpAny_bind (wpAny_onRaise ?_))
  show wpAny _ _ (Builtin.SmallTypes.nextOf (.ref (c 1)) >>= _) _ _ ⟨g1, g, d, tk0, os⟩
  refine wpAny_bind (wpAny_nextOf_list_item (s := ⟨g1, g, d, tk0, os⟩) hi2_1 hl2_1 e2 fun q2 hi2_q hs2 => wpAny_pure ?_)
  replace hs2 : Heap.SameBut (c 1) g1 q2 := hs2
  have hU2 : IsT4 q2 (c 5) x1 a2 a3 a4 := (hs2.2 _ (S.ne _ _ (by decide))).trans hTO1
  refine wpAny_bind (wpAny_seqItems (s := ⟨q2, g, d, tk0, os⟩) hU2 rfl ?_)
  refine wpAny_bind (upd4 (s := ⟨q2, g, d, tk0, os⟩) hU2 fun g2 hTO2 hr2 => ?_)
  replace hTO2 : IsT4 g2 (c 5) x1 x2 a3 a4 := hTO2
  replace hr2 : Heap.SameBut (c 5) q2 g2 := hr2
  have hz2 : IsZip g2 (c 6) (c 4) (c 5) .ellipsis := (hr2.2 _ (S.ne _ _ (by decide))).trans ((hs2.2 _ (S.ne _ _ (by decide))).trans hz1)
  have hsz2 : g2.objs.size = hp.objs.size := by rw [hr2.1, hs2.1, hsz1]
  have hk2 : Kept c hp g2 := fun b o hb q => (hr2.2 b (hb 5 (by decide))).trans ((hs2.2 b (hb 1 (by decide))).trans (hk1 b o hb q))
  have hi1_2 : g2.IsListIter (c 0) l1 (i + 1) := hi1_1.at fun o q => (hr2.2 _ (S.ne _ _ (by decide))).trans ((hs2.2 _ (S.ne _ _ (by decide))).trans q)
  have hi2_2 : g2.IsListIter (c 1) l2 (i + 1) := hi2_q.at fun o q => (hr2.2 _ (S.ne _ _ (by decide))).trans q
  have hi3_2 : g2.IsListIter (c 2) l3 i := hi3_1.at fun o q => (hr2.2 _ (S.ne _ _ (by decide))).trans ((hs2.2 _ (S.ne _ _ (by decide))).trans q)
  have hl3_2 : g2.IsList l3 y3 := hl3_1.at fun o q => (hr2.2 _ (S.n3 _)).trans ((hs2.2 _ (S.n3 _)).trans q)
  have hi4_2 : g2.IsListIter (c 3) l4 i := hi4_1.at fun o q => (hr2.2 _ (S.ne _ _ (by decide))).trans ((hs2.2 _ (S.ne _ _ (by decide))).trans q)
  have hl4_2 : g2.IsList l4 y4 := hl4_1.at fun o q => (hr2.2 _ (S.n4 _)).trans ((hs2.2 _ (S.n4 _)).trans q)
  have hti2 : IsT4 g2 (c 4) (.ref (c 0)) (.ref (c 1)) (.ref (c 2)) (.ref (c 3)) := (hr2.2 _ (S.ne _ _ (by decide))).trans ((hs2.2 _ (S.ne _ _ (by decide))).trans hti1)
  clear hs2 hr2 hU2 hz1 hk1 hsz1 hTO1
  refine wpAny_bind (wpAny_letGo (wpAny_pure ?_))
  -- the iterator 3
  refine wpAny_bind (wpAny_bind (wpAny_onRaise ?_))
  show wpAny _ _ (Builtin.SmallTypes.nextOf (.ref (c 2)) >>= _) _ _ ⟨g2, g, d, tk0, os⟩
  refine wpAny_bind (wpAny_nextOf_list_item (s := ⟨g2, g, d, tk0, os⟩) hi3_2 hl3_2 e3 fun q3 hi3_q hs3 => wpAny_pure ?_)
  replace hs3 : Heap.SameBut (c 2) g2 q3 := hs3
  have hU3 : IsT4 q3 (c 5) x1 x2 a3 a4 := (hs3.2 _ (S.ne _ _ (by decide))).trans hTO2
  refine wpAny_bind (wpAny_seqItems (s := ⟨q3, g, d, tk0, os⟩) hU3 rfl ?_)
  refine wpAny_bind (upd4 (s := ⟨q3, g, d, tk0, os⟩) hU3 fun g3 hTO3 hr3 => ?_)
  replace hTO3 : IsT4 g3 (c 5) x1 x2 x3 a4 := hTO3
  replace hr3 : Heap.SameBut (c 5) q3 g3 := hr3
  have hz3 : IsZip g3 (c 6) (c 4) (c 5) .ellipsis := (hr3.2 _ (S.ne _ _ (by decide))).trans ((hs3.2 _ (S.ne _ _ (by decide))).trans hz2)
  have hsz3 : g3.objs.size = hp.objs.size := by rw [hr3.1, hs3.1, hsz2]
  have hk3 : Kept c hp g3 := fun b o hb q => (hr3.2 b (hb 5 (by decide))).trans ((hs3.2 b (hb 2 (by decide))).trans (hk2 b o hb q))
  have hi1_3 : g3.IsListIter (c 0) l1 (i + 1) := hi1_2.at fun o q => (hr3.2 _ (S.ne _ _ (by decide))).trans ((hs3.2 _ (S.ne _ _ (by decide))).trans q)
  have hi2_3 : g3.IsListIter (c 1) l2 (i + 1) := hi2_2.at fun o q => (hr3.2 _ (S.ne _ _ (by decide))).trans ((hs3.2 _ (S.ne _ _ (by decide))).trans q)
  have hi3_3 : g3.IsListIter (c 2) l3 (i + 1) := hi3_q.at fun o q => (hr3.2 _ (S.ne _ _ (by decide))).trans q
  have hi4_3 : g3.IsListIter (c 3) l4 i := hi4_2.at fun o q => (hr3.2 _ (S.ne _ _ (by decide))).trans ((hs3.2 _ (S.ne _ _ (by decide))).trans q)
  have hl4_3 : g3.IsList l4 y4 := hl4_2.at fun o q => (hr3.2 _ (S.n4 _)).trans ((hs3.2 _ (S.n4 _)).trans q)
  have hti3 : IsT4 g3 (c 4) (.ref (c 0)) (.ref (c 1)) (.ref (c 2)) (.ref (c 3)) := (hr3.2 _ (S.ne _ _ (by decide))).trans ((hs3.2 _ (S.ne _ _ (by decide))).trans hti2)
  clear hs3 hr3 hU3 hz2 hk2 hsz2 hTO2
  refine wpAny_bind (wpAny_letGo (wpAny_pure ?_))
  -- the iterator 4
  refine wpAny_bind (wpAny_bind (wpAny_onRaise ?_))
  show wpAny _ _ (Builtin.SmallTypes.nextOf (.ref (c 3)) >>= _) _ _ ⟨g3, g, d, tk0, os⟩
  refine wpAny_bind (wpAny_nextOf_list_item (s := ⟨g3, g, d, tk0, os⟩) hi4_3 hl4_3 e4 fun q4 hi4_q hs4 => wpAny_pure ?_)
  replace hs4 : Heap.SameBut (c 3) g3 q4 := hs4
  have hU4 : IsT4 q4 (c 5) x1 x2 x3 a4 := (hs4.2 _ (S.ne _ _ (by decide))).trans hTO3
  refine wpAny_bind (wpAny_seqItems (s := ⟨q4, g, d, tk0, os⟩) hU4 rfl ?_)
  refine wpAny_bind (upd4 (s := ⟨q4, g, d, tk0, os⟩) hU4 fun g4 hTO4 hr4 => ?_)
  replace hTO4 : IsT4 g4 (c 5) x1 x2 x3 x4 := hTO4
  replace hr4 : Heap.SameBut (c 5) q4 g4 := hr4
  have hz4 : IsZip g4 (c 6) (c 4) (c 5) .ellipsis := (hr4.2 _ (S.ne _ _ (by decide))).trans ((hs4.2 _ (S.ne _ _ (by decide))).trans hz3)
  have hsz4 : g4.objs.size = hp.objs.size := by rw [hr4.1, hs4.1, hsz3]
  have hk4 : Kept c hp g4 := fun b o hb q => (hr4.2 b (hb 5 (by decide))).trans ((hs4.2 b (hb 3 (by decide))).trans (hk3 b o hb q))
  have hi1_4 : g4.IsListIter (c 0) l1 (i + 1) := hi1_3.at fun o q => (hr4.2 _ (S.ne _ _ (by decide))).trans ((hs4.2 _ (S.ne _ _ (by decide))).trans q)
  have hi2_4 : g4.IsListIter (c 1) l2 (i + 1) := hi2_3.at fun o q => (hr4.2 _ (S.ne _ _ (by decide))).trans ((hs4.2 _ (S.ne _ _ (by decide))).trans q)
  have hi3_4 : g4.IsListIter (c 2) l3 (i + 1) := hi3_3.at fun o q => (hr4.2 _ (S.ne _ _ (by decide))).trans ((hs4.2 _ (S.ne _ _ (by decide))).trans q)
  have hi4_4 : g4.IsListIter (c 3) l4 (i + 1) := hi4_q.at fun o q => (hr4.2 _ (S.ne _ _ (by decide))).trans q
  have hti4 : IsT4 g4 (c 4) (.ref (c 0)) (.ref (c 1)) (.ref (c 2)) (.ref (c 3)) := (hr4.2 _ (S.ne _ _ (by decide))).trans ((hs4.2 _ (S.ne _ _ (by decide))).trans hti3)
  clear hs4 hr4 hU4 hz3 hk3 hsz3 hTO3
  refine wpAny_bind (wpAny_letGo (wpAny_pure (wpAny_pure ?_)))
  refine wpAny_bind (wpAny_seqItems (s := ⟨g4, g, d, tk0, os⟩) hTO4 rfl ?_)
  refine wpAny_bind (wpAny_newTuple ?_)
  have hzlt : c 6 < g4.objs.size := Heap.lt_size hz4
  show wpAny _ _ (Builtin.SmallTypes.ownedTupleHandOut (.ref (c 6)) (.ref g4.objs.size) >>= _) _ _ ⟨g4.push { cls := .type "tuple", data := .seq #[x1, x2, x3, x4] }, g, d, tk0, os⟩
  refine wpAny_bind ?_
  unfold Builtin.SmallTypes.ownedTupleHandOut
  have hz5 : IsZip (g4.push { cls := .type "tuple", data := .seq #[x1, x2, x3, x4] }) (c 6) (c 4) (c 5) .ellipsis := Heap.get?_push_of_some _ hz4
  refine wpAny_bind (wpAny_setField_rec hz5 (by simp) fun h7 hz7 hs7 => ?_)
  replace hz7 : IsZip h7 (c 6) (c 4) (c 5) (rawInt g4.objs.size) := hz7
  refine wpAny_setField_rec hz7 (by simp) fun h8 hz8 hs8 => ?_
  replace hz8 : IsZip h8 (c 6) (c 4) (c 5) (rawInt g4.objs.size) := hz8
  replace hs7 : Heap.SameBut (c 6) (g4.push { cls := .type "tuple", data := .seq #[x1, x2, x3, x4] }) h7 := hs7
  replace hs8 : Heap.SameBut (c 6) h7 h8 := hs8
  have up : ∀ b o, b ≠ c 6 → g4.get? b = some o → h8.get? b = some o := fun b o hb q => (hs8.2 b hb).trans ((hs7.2 b hb).trans (Heap.get?_push_of_some _ q))
  have hT8 : IsT4 h8 g4.objs.size x1 x2 x3 x4 := (hs8.2 _ (Nat.ne_of_gt hzlt)).trans ((hs7.2 _ (Nat.ne_of_gt hzlt)).trans (Heap.get?_push_size _ rfl))
  have hn8 : h8.objs.size = g4.objs.size + 1 := by rw [hs8.1, hs7.1, Heap.size_push]
  rw [hsz4] at hz8 hT8 hn8
  refine wpAny_pure ⟨_, rfl, ?_⟩
  show Q (.ref g4.objs.size) ⟨h8, g, d, tk0, os⟩
  rw [hsz4]
  exact hQ h8 tk0 hz8 ⟨up _ _ (S.ne _ _ (by decide)) hti4, ⟨x1, x2, x3, x4, up _ _ (S.ne _ _ (by decide)) hTO4⟩, hi1_4.at fun o q => up _ _ (S.ne _ _ (by decide)) q, hi2_4.at fun o q => up _ _ (S.ne _ _ (by decide)) q, hi3_4.at fun o q => up _ _ (S.ne _ _ (by decide)) q, hi4_4.at fun o q => up _ _ (S.ne _ _ (by decide)) q⟩
    hT8 hn8 fun b o hb q => up b o (hb 6 (by decide)) (hk4 b o hb q)
theorem next4_end {Q : Fin → Shared → Prop} (hh : A.handled = none) (S : Sep c l1 l2 l3 l4) (hz : IsZip s.heap (c 6) (c 4) (c 5) .none) (Z : Z4 c l1 l2 l3 l4 i s.heap) (hl1 : s.heap.IsList l1 y1) (e1 : y1[i]? = none)
    (hE : ∀ h' tk e, Kept c s.heap h' → (∃ o, h'.get? e = some o ∧ o.cls = .type "StopIteration") → E (.ref e) { s with heap := h', toks := tk }) :
    wpAny (model prog w) A (Builtin.«zip.__next__» ⟨[.ref (c 6)], []⟩) Q E s := by
  obtain ⟨hp, g, d, tk0, os⟩ := s
  obtain ⟨hTI, ⟨a1, a2, a3, a4, hTO⟩, hi1, _, _, _⟩ := Z
  have hz : IsZip hp (c 6) (c 4) (c 5) .none := hz
  have hTI : IsT4 hp (c 4) (.ref (c 0)) (.ref (c 1)) (.ref (c 2)) (.ref (c 3)) := hTI
  show wpAny _ _ (field (.ref (c 6)) 2 >>= _) _ _ _
  refine wpAny_bind (wpAny_field hz rfl (x := .bool false) rfl ?_)
  show wpAny _ _ (field (.ref (c 6)) 3 >>= _) _ _ _
  refine wpAny_bind (wpAny_field hz rfl (x := .ref (c 4)) rfl ?_)
  refine wpAny_bind (wpAny_seqItems hTI rfl ?_)
  show wpAny _ _ (Builtin.SmallTypes.ownedTupleIsFree (.ref (c 6)) >>= _) _ _ _
  refine wpAny_bind ?_
  unfold Builtin.SmallTypes.ownedTupleIsFree
  refine wpAny_bind (wpAny_field hz rfl (x := .none) rfl (wpAny_pure ?_))
  simp only [if_true]
  refine wpAny_bind (wpAny_rule ?_)
  refine wpAny_bind (wpAny_field hz rfl (x := .ref (c 5)) rfl ?_)
  refine wpAny_bind (wpAny_setField_rec hz (by simp) fun g0 hz0 hs0 => ?_)
  replace hz0 : IsZip g0 (c 6) (c 4) (c 5) .ellipsis := hz0
  replace hs0 : Heap.SameBut (c 6) hp g0 := hs0
  have hi1' : g0.IsListIter (c 0) l1 i := hi1.at fun o q => (hs0.2 _ (S.ne _ _ (by decide))).trans q
  have hl1' : g0.IsList l1 y1 := hl1.at fun o q => (hs0.2 _ (S.n1 _)).trans q
  refine wpAny_bind ?_
  simp only [List.zipIdx_cons, List.zipIdx_nil, List.forIn_cons, List.forIn_nil]
  refine wpAny_bind (wpAny_bind (wpAny_onRaise ?_))
  show wpAny _ _ (Builtin.SmallTypes.nextOf (.ref (c 0)) >>= _) _ _ ⟨g0, g, d, tk0, os⟩
  refine wpAny_bind (wpAny_nextOf_list_end (s := ⟨g0, g, d, tk0, os⟩) hh hi1' hl1' e1 fun q e hq he => ?_)
  replace hq : Heap.ExtBut (c 0) g0 q := hq
  obtain ⟨oe, hoe, hce⟩ := he
  have hzq : IsZip q (c 6) (c 4) (c 5) .ellipsis := hq _ _ (S.ne _ _ (by decide)) hz0
  have hez : e ≠ c 6 := fun x => by subst x; rw [hzq] at hoe; cases hoe; simp at hce
  refine wpAny_setField_rec (s := ⟨q, g, d, tk0, os⟩) hzq (by simp) fun q' _ hq' => ?_
  replace hq' : Heap.SameBut (c 6) q q' := hq'
  exact hE q' tk0 e (fun b o hb x => (hq'.2 b (hb 6 (by decide))).trans (hq _ _ (hb 0 (by decide)) ((hs0.2 b (hb 6 (by decide))).trans x))) ⟨oe, (hq'.2 e hez).trans hoe, hce⟩
theorem next4_held {T : Addr} {f : Bool} {oT : Obj} {x1 x2 x3 x4 : Value} {Q : Value → Shared → Prop} (S : Sep c l1 l2 l3 l4) (hz : IsZipHeld s.heap (c 6) (c 4) (c 5) T f) (hT : s.heap.get? T = some oT) (Z : Z4 c l1 l2 l3 l4 i s.heap)
    (L : L4 l1 l2 l3 l4 y1 y2 y3 y4 s.heap) (e1 : y1[i]? = some x1) (e2 : y2[i]? = some x2) (e3 : y3[i]? = some x3) (e4 : y4[i]? = some x4)
    (hQ : ∀ h', IsZipHeld h' (c 6) (c 4) (c 5) T true → Z4 c l1 l2 l3 l4 (i + 1) h' → IsT4 h' s.heap.objs.size x1 x2 x3 x4 → h'.objs.size = s.heap.objs.size + 1 → Kept c s.heap h' → Q (.ref s.heap.objs.size) { s with heap := h' }) :
    wpAny (model prog w) A (Builtin.«zip.__next__» ⟨[.ref (c 6)], []⟩) (fun fin s' => ∃ v, fin = .done (.ret v) ∧ Q v s') E s := by
  obtain ⟨hp, g, d, tk0, os⟩ := s
  obtain ⟨hTI, ⟨a1, a2, a3, a4, hTO⟩, hi1, hi2, hi3, hi4⟩ := Z
  obtain ⟨hl1, hl2, hl3, hl4⟩ := L
  have hz : IsZipHeld hp (c 6) (c 4) (c 5) T f := hz
  have hTI : IsT4 hp (c 4) (.ref (c 0)) (.ref (c 1)) (.ref (c 2)) (.ref (c 3)) := hTI
  have hTO : IsT4 hp (c 5) a1 a2 a3 a4 := hTO
  show wpAny _ _ (field (.ref (c 6)) 2 >>= _) _ _ _
  refine wpAny_bind (wpAny_field hz rfl (x := .bool false) rfl ?_)
  show wpAny _ _ (field (.ref (c 6)) 3 >>= _) _ _ _
  refine wpAny_bind (wpAny_field hz rfl (x := .ref (c 4)) rfl ?_)
  refine wpAny_bind (wpAny_seqItems hTI rfl ?_)
  show wpAny _ _ (Builtin.SmallTypes.ownedTupleIsFree (.ref (c 6)) >>= _) _ _ _
  refine wpAny_bind (wpAny_tupleHeld_zip hz hT fun g0 hz0 hs0 => ?_)
  replace hs0 : Heap.SameBut (c 6) hp g0 := hs0
  have hTO0 : IsT4 g0 (c 5) a1 a2 a3 a4 := (hs0.2 _ (S.ne _ _ (by decide))).trans hTO
  have hti0 : IsT4 g0 (c 4) (.ref (c 0)) (.ref (c 1)) (.ref (c 2)) (.ref (c 3)) := (hs0.2 _ (S.ne _ _ (by decide))).trans hTI
  have hi1_0 : g0.IsListIter (c 0) l1 i := hi1.at fun o q => (hs0.2 _ (S.ne _ _ (by decide))).trans q
  have hl1_0 : g0.IsList l1 y1 := hl1.at fun o q => (hs0.2 _ (S.n1 _)).trans q
  have hi2_0 : g0.IsListIter (c 1) l2 i := hi2.at fun o q => (hs0.2 _ (S.ne _ _ (by decide))).trans q
  have hl2_0 : g0.IsList l2 y2 := hl2.at fun o q => (hs0.2 _ (S.n2 _)).trans q
  have hi3_0 : g0.IsListIter (c 2) l3 i := hi3.at fun o q => (hs0.2 _ (S.ne _ _ (by decide))).trans q
  have hl3_0 : g0.IsList l3 y3 := hl3.at fun o q => (hs0.2 _ (S.n3 _)).trans q
  have hi4_0 : g0.IsListIter (c 3) l4 i := hi4.at fun o q => (hs0.2 _ (S.ne _ _ (by decide))).trans q
  have hl4_0 : g0.IsList l4 y4 := hl4.at fun o q => (hs0.2 _ (S.n4 _)).trans q
  have hsz0 : g0.objs.size = hp.objs.size := hs0.1
  have hk0 : Kept c hp g0 := fun b o hb q => (hs0.2 b (hb 6 (by decide))).trans q
  clear hs0 hz hTI hTO
  simp only [Bool.false_eq_true, if_false]
  refine wpAny_bind ?_
  rw [← Array.forIn_toList]
  simp only [List.forIn_cons, List.forIn_nil]
  -- the iterator 1
  refine wpAny_bind (wpAny_bind (wpAny_holding ?_))
  show wpAny _ _ (Builtin.SmallTypes.nextOf (.ref (c 0)) >>= _) _ _ _
  refine wpAny_bind (wpAny_nextOf_list_item (s := ⟨g0, g, d, tk0, os⟩) hi1_0 hl1_0 e1 fun g1 hi1_1 hs1 => wpAny_pure ?_)
  refine wpAny_pure ?_
  replace hs1 : Heap.SameBut (c 0) g0 g1 := hs1
  have hTO1 : IsT4 g1 (c 5) a1 a2 a3 a4 := (hs1.2 _ (S.ne _ _ (by decide))).trans hTO0
  have hti1 : IsT4 g1 (c 4) (.ref (c 0)) (.ref (c 1)) (.ref (c 2)) (.ref (c 3)) := (hs1.2 _ (S.ne _ _ (by decide))).trans hti0
  have hz1 : IsZipHeld g1 (c 6) (c 4) (c 5) T true := (hs1.2 _ (S.ne _ _ (by decide))).trans hz0
  have hsz1 : g1.objs.size = hp.objs.size := by rw [hs1.1, hsz0]
  have hk1 : Kept c hp g1 := fun b o hb q => (hs1.2 b (hb 0 (by decide))).trans (hk0 b o hb q)
  have hi2_1 : g1.IsListIter (c 1) l2 i := hi2_0.at fun o q => (hs1.2 _ (S.ne _ _ (by decide))).trans q
  have hl2_1 : g1.IsList l2 y2 := hl2_0.at fun o q => (hs1.2 _ (S.n2 _)).trans q
  have hi3_1 : g1.IsListIter (c 2) l3 i := hi3_0.at fun o q => (hs1.2 _ (S.ne _ _ (by decide))).trans q
  have hl3_1 : g1.IsList l3 y3 := hl3_0.at fun o q => (hs1.2 _ (S.n3 _)).trans q
  have hi4_1 : g1.IsListIter (c 3) l4 i := hi4_0.at fun o q => (hs1.2 _ (S.ne _ _ (by decide))).trans q
  have hl4_1 : g1.IsList l4 y4 := hl4_0.at fun o q => (hs1.2 _ (S.n4 _)).trans q
  clear hs1 hz0 hk0 hsz0 hTO0 hti0
  -- the iterator 2
  refine wpAny_bind (wpAny_bind (wpAny_holding ?_))
  show wpAny _ _ (Builtin.SmallTypes.nextOf (.ref (c 1)) >>= _) _ _ _
  refine wpAny_bind (wpAny_nextOf_list_item (s := ⟨g1, g, d, tk0, os⟩) hi2_1 hl2_1 e2 fun g2 hi2_2 hs2 => wpAny_pure ?_)
  refine wpAny_pure ?_
  replace hs2 : Heap.SameBut (c 1) g1 g2 := hs2
  have hTO2 : IsT4 g2 (c 5) a1 a2 a3 a4 := (hs2.2 _ (S.ne _ _ (by decide))).trans hTO1
  have hti2 : IsT4 g2 (c 4) (.ref (c 0)) (.ref (c 1)) (.ref (c 2)) (.ref (c 3)) := (hs2.2 _ (S.ne _ _ (by decide))).trans hti1
  have hz2 : IsZipHeld g2 (c 6) (c 4) (c 5) T true := (hs2.2 _ (S.ne _ _ (by decide))).trans hz1
  have hsz2 : g2.objs.size = hp.objs.size := by rw [hs2.1, hsz1]
  have hk2 : Kept c hp g2 := fun b o hb q => (hs2.2 b (hb 1 (by decide))).trans (hk1 b o hb q)
  have hi1_2 : g2.IsListIter (c 0) l1 (i + 1) := hi1_1.at fun o q => (hs2.2 _ (S.ne _ _ (by decide))).trans q
  have hi3_2 : g2.IsListIter (c 2) l3 i := hi3_1.at fun o q => (hs2.2 _ (S.ne _ _ (by decide))).trans q
  have hl3_2 : g2.IsList l3 y3 := hl3_1.at fun o q => (hs2.2 _ (S.n3 _)).trans q
  have hi4_2 : g2.IsListIter (c 3) l4 i := hi4_1.at fun o q => (hs2.2 _ (S.ne _ _ (by decide))).trans q
  have hl4_2 : g2.IsList l4 y4 := hl4_1.at fun o q => (hs2.2 _ (S.n4 _)).trans q
  clear hs2 hz1 hk1 hsz1 hTO1 hti1
  -- the iterator 3
  refine wpAny_bind (wpAny_bind (wpAny_holding ?_))
  show wpAny _ _ (Builtin.SmallTypes.nextOf (.ref (c 2)) >>= _) _ _ _
  refine wpAny_bind (wpAny_nextOf_list_item (s := ⟨g2, g, d, tk0, os⟩) hi3_2 hl3_2 e3 fun g3 hi3_3 hs3 => wpAny_pure ?_)
  refine wpAny_pure ?_
  replace hs3 : Heap.SameBut (c 2) g2 g3 := hs3
  have hTO3 : IsT4 g3 (c 5) a1 a2 a3 a4 := (hs3.2 _ (S.ne _ _ (by decide))).trans hTO2
  have hti3 : IsT4 g3 (c 4) (.ref (c 0)) (.ref (c 1)) (.ref (c 2)) (.ref (c 3)) := (hs3.2 _ (S.ne _ _ (by decide))).trans hti2
  have hz3 : IsZipHeld g3 (c 6) (c 4) (c 5) T true := (hs3.2 _ (S.ne _ _ (by decide))).trans hz2
  have hsz3 : g3.objs.size = hp.objs.size := by rw [hs3.1, hsz2]
  have hk3 : Kept c hp g3 := fun b o hb q => (hs3.2 b (hb 2 (by decide))).trans (hk2 b o hb q)
  have hi1_3 : g3.IsListIter (c 0) l1 (i + 1) := hi1_2.at fun o q => (hs3.2 _ (S.ne _ _ (by decide))).trans q
  have hi2_3 : g3.IsListIter (c 1) l2 (i + 1) := hi2_2.at fun o q => (hs3.2 _ (S.ne _ _ (by decide))).trans q
  have hi4_3 : g3.IsListIter (c 3) l4 i := hi4_2.at fun o q => (hs3.2 _ (S.ne _ _ (by decide))).trans q
  have hl4_3 : g3.IsList l4 y4 := hl4_2.at fun o q => (hs3.2 _ (S.n4 _)).trans q
  clear hs3 hz2 hk2 hsz2 hTO2 hti2
  -- the iterator 4
  refine wpAny_bind (wpAny_bind (wpAny_holding ?_))
  show wpAny _ _ (Builtin.SmallTypes.nextOf (.ref (c 3)) >>= _) _ _ _
  refine wpAny_bind (wpAny_nextOf_list_item (s := ⟨g3, g, d, tk0, os⟩) hi4_3 hl4_3 e4 fun g4 hi4_4 hs4 => wpAny_pure ?_)
  refine wpAny_pure (wpAny_pure ?_)
  replace hs4 : Heap.SameBut (c 3) g3 g4 := hs4
  have hTO4 : IsT4 g4 (c 5) a1 a2 a3 a4 := (hs4.2 _ (S.ne _ _ (by decide))).trans hTO3
  have hti4 : IsT4 g4 (c 4) (.ref (c 0)) (.ref (c 1)) (.ref (c 2)) (.ref (c 3)) := (hs4.2 _ (S.ne _ _ (by decide))).trans hti3
  have hz4 : IsZipHeld g4 (c 6) (c 4) (c 5) T true := (hs4.2 _ (S.ne _ _ (by decide))).trans hz3
  have hsz4 : g4.objs.size = hp.objs.size := by rw [hs4.1, hsz3]
  have hk4 : Kept c hp g4 := fun b o hb q => (hs4.2 b (hb 3 (by decide))).trans (hk3 b o hb q)
  have hi1_4 : g4.IsListIter (c 0) l1 (i + 1) := hi1_3.at fun o q => (hs4.2 _ (S.ne _ _ (by decide))).trans q
  have hi2_4 : g4.IsListIter (c 1) l2 (i + 1) := hi2_3.at fun o q => (hs4.2 _ (S.ne _ _ (by decide))).trans q
  have hi3_4 : g4.IsListIter (c 2) l3 (i + 1) := hi3_3.at fun o q => (hs4.2 _ (S.ne _ _ (by decide))).trans q
  clear hs4 hz3 hk3 hsz3 hTO3 hti3
  show wpAny _ _ (newTuple [x1, x2, x3, x4] >>= _) _ _ _
  refine wpAny_bind (wpAny_newTuple ?_)
  refine wpAny_pure ⟨_, rfl, ?_⟩
  show Q (.ref g4.objs.size) _
  have up : ∀ b o, g4.get? b = some o → (g4.push { cls := .type "tuple", data := .seq #[x1, x2, x3, x4] }).get? b = some o := fun b o q => Heap.get?_push_of_some _ q
  have hT8 : IsT4 (g4.push { cls := .type "tuple", data := .seq #[x1, x2, x3, x4] }) g4.objs.size x1 x2 x3 x4 := Heap.get?_push_size _ rfl
  have hn8 : (g4.push { cls := .type "tuple", data := .seq #[x1, x2, x3, x4] }).objs.size = g4.objs.size + 1 := Heap.size_push ..
  rw [hsz4] at hT8 hn8 ⊢
  exact hQ _ (up _ _ hz4) ⟨up _ _ hti4, ⟨a1, a2, a3, a4, up _ _ hTO4⟩, hi1_4.at fun o q => up _ _ q, hi2_4.at fun o q => up _ _ q, hi3_4.at fun o q => up _ _ q, hi4_4.at fun o q => up _ _ q⟩ hT8 hn8 fun b o hb q => up b o (hk4 b o hb q)
theorem end4_held {T : Addr} {f : Bool} {oT : Obj} {Q : Fin → Shared → Prop} (hh : A.handled = none) (S : Sep c l1 l2 l3 l4) (hz : IsZipHeld s.heap (c 6) (c 4) (c 5) T f) (hT : s.heap.get? T = some oT) (Z : Z4 c l1 l2 l3 l4 i s.heap)
    (hl1 : s.heap.IsList l1 y1) (e1 : y1[i]? = none)
    (hE : ∀ h' e, Kept c s.heap h' → (∃ o, h'.get? e = some o ∧ o.cls = .type "StopIteration") → E (.ref e) { s with heap := h' }) :
    wpAny (model prog w) A (Builtin.«zip.__next__» ⟨[.ref (c 6)], []⟩) Q E s := by
  obtain ⟨hTI, _, hi1, _, _, _⟩ := Z
  show wpAny _ _ (field (.ref (c 6)) 2 >>= _) _ _ _
  refine wpAny_bind (wpAny_field hz rfl (x := .bool false) rfl ?_)
  show wpAny _ _ (field (.ref (c 6)) 3 >>= _) _ _ _
  refine wpAny_bind (wpAny_field hz rfl (x := .ref (c 4)) rfl ?_)
  refine wpAny_bind (wpAny_seqItems hTI rfl ?_)
  show wpAny _ _ (Builtin.SmallTypes.ownedTupleIsFree (.ref (c 6)) >>= _) _ _ _
  refine wpAny_bind (wpAny_tupleHeld_zip hz hT fun g0 hz0 hs0 => ?_)
  simp only [Bool.false_eq_true, if_false]
  refine wpAny_bind ?_
  rw [← Array.forIn_toList]
  simp only [List.forIn_cons, List.forIn_nil]
  refine wpAny_bind (wpAny_bind (wpAny_holding ?_))
  show wpAny _ _ (Builtin.SmallTypes.nextOf (.ref (c 0)) >>= _) _ _ _
  refine wpAny_bind (wpAny_nextOf_list_end (s := { s with heap := g0 }) hh (hi1.at fun o q => (hs0.2 _ (S.ne _ _ (by decide))).trans q) (hl1.at fun o q => (hs0.2 _ (S.n1 _)).trans q) e1 fun h2 e hs2 he => ?_)
  exact hE h2 e (fun b o hb q => hs2 _ _ (hb 0 (by decide)) ((hs0.2 b (hb 6 (by decide))).trans q)) he
end
end Kin

set_option maxHeartbeats 4000000
namespace Kin
open PySem PySem.Spec PyProof.Rows L2
theorem nolen_zip : typeLookup (.type "zip") "__len__" = pure none := by rw [typeLookup_type, builtinLookup_eq_fast]; kernel_rfl
theorem nohint_zip : typeLookup (.type "zip") "__length_hint__" = pure none := by rw [typeLookup_type, builtinLookup_eq_fast]; kernel_rfl
/-- what the zip knows of the first tuple that it gave out -/
def Zout (c : Nat → Addr) (h : Heap) : List Addr → Prop
  | [] => IsZip h (c 6) (c 4) (c 5) .none
  | T :: _ => ∃ f, IsZipHeld h (c 6) (c 4) (c 5) T f
/-- the tuples made so far -/
structure Rows4 (c : Nat → Addr) (N D : Addr) (y1 y2 y3 y4 : Array Value) (Ts : List Addr) (h : Heap) : Prop where
  nd : Ts.Nodup
  at_ : ∀ (j : Nat) (T : Addr), Ts[j]? = some T → N ≤ T ∧ T ≠ D ∧ (∀ a, a < 7 → T ≠ c a) ∧ ∃ x1 x2 x3 x4, y1[j]? = some x1 ∧ y2[j]? = some x2 ∧ y3[j]? = some x3 ∧ y4[j]? = some x4 ∧ IsT4 h T x1 x2 x3 x4
theorem Rows4.lt {c : Nat → Addr} {N D : Addr} {y1 y2 y3 y4 : Array Value} {Ts : List Addr} {h : Heap} (r : Rows4 c N D y1 y2 y3 y4 Ts h) {T : Addr} (m : T ∈ Ts) : T < h.objs.size := by
  obtain ⟨j, hj⟩ := List.getElem?_of_mem m
  obtain ⟨_, _, _, _, _, _, _, _, _, _, _, e⟩ := r.at_ j T hj
  exact Heap.lt_size e
section
variable {prog : Program} {w : World} {A : Around} {E : Value → Shared → Prop} {c : Nat → Addr} {l1 l2 l3 l4 : Addr} {y1 y2 y3 y4 : Array Value} {R : Result → Shared → Prop}
/-- one more tuple -/
theorem pyNext4 {s : Shared} {N D : Addr} {Ts : List Addr} {i : Nat} {x1 x2 x3 x4 : Value} {Q : Option Value → Shared → Prop} (S : Sep c l1 l2 l3 l4) (Z : Z4 c l1 l2 l3 l4 i s.heap) (O : Zout c s.heap Ts) (W : Rows4 c N D y1 y2 y3 y4 Ts s.heap) (L : L4 l1 l2 l3 l4 y1 y2 y3 y4 s.heap)
    (e1 : y1[i]? = some x1) (e2 : y2[i]? = some x2) (e3 : y3[i]? = some x3) (e4 : y4[i]? = some x4)
    (hQ : ∀ h' tk, Z4 c l1 l2 l3 l4 (i + 1) h' → Zout c h' (Ts ++ [s.heap.objs.size]) → IsT4 h' s.heap.objs.size x1 x2 x3 x4 → h'.objs.size = s.heap.objs.size + 1 → Kept c s.heap h' → Q (some (.ref s.heap.objs.size)) { s with heap := h', toks := tk }) :
    wpAny (model prog w) A (pyNext (.ref (c 6))) Q E s := by
  cases Ts with
  | nil =>
    have hz : IsZip s.heap (c 6) (c 4) (c 5) .none := O
    have hT : s.TypeIs (.ref (c 6)) "zip" := ⟨_, hz, rfl⟩
    unfold pyNext
    exact wpAny_bind (wpAny_attempt (wpAny_callSpecial?_slot (name := Str.ofString "__next__") hT PySem.F.slot_zip_next
      (wpAny_call_entry PySem.F.slot_zip_next hT PySem.F.entry_zip_next (next4_item S hz Z L e1 e2 e3 e4 fun h' tk a1 a2 a3 a4 a5 => wpAny_pure (hQ h' tk a2 ⟨_, a1⟩ a3 a4 a5)) (PySem.F.args_zip_next_1 _))))
  | cons T r =>
    obtain ⟨f, hz⟩ := (show ∃ f, IsZipHeld s.heap (c 6) (c 4) (c 5) T f from O)
    have hT : s.TypeIs (.ref (c 6)) "zip" := ⟨_, hz, rfl⟩
    obtain ⟨_, _, _, _, _, _, _, _, _, _, _, hT0⟩ := W.at_ 0 T rfl
    unfold pyNext
    exact wpAny_bind (wpAny_attempt (wpAny_callSpecial?_slot (name := Str.ofString "__next__") hT PySem.F.slot_zip_next
      (wpAny_call_entry PySem.F.slot_zip_next hT PySem.F.entry_zip_next (next4_held S hz hT0 Z L e1 e2 e3 e4 fun h' a1 a2 a3 a4 a5 => wpAny_pure (hQ h' s.toks a2 ⟨_, a1⟩ a3 a4 a5)) (PySem.F.args_zip_next_1 _))))
/-- no more -/
theorem pyNext4_end {s : Shared} {N D : Addr} {Ts : List Addr} {i : Nat} {Q : Option Value → Shared → Prop} (hh : A.handled = none) (S : Sep c l1 l2 l3 l4) (Z : Z4 c l1 l2 l3 l4 i s.heap) (O : Zout c s.heap Ts) (W : Rows4 c N D y1 y2 y3 y4 Ts s.heap) (L : L4 l1 l2 l3 l4 y1 y2 y3 y4 s.heap)
    (e1 : y1[i]? = none) (hQ : ∀ h' tk, Kept c s.heap h' → Q none { s with heap := h', toks := tk }) :
    wpAny (model prog w) A (pyNext (.ref (c 6))) Q E s := by
  cases Ts with
  | nil =>
    have hz : IsZip s.heap (c 6) (c 4) (c 5) .none := O
    have hT : s.TypeIs (.ref (c 6)) "zip" := ⟨_, hz, rfl⟩
    unfold pyNext
    refine wpAny_bind (wpAny_attempt (wpAny_callSpecial?_slot (name := Str.ofString "__next__") hT PySem.F.slot_zip_next
      (wpAny_call_entry PySem.F.slot_zip_next hT PySem.F.entry_zip_next (next4_end hh S hz Z L.l1 e1 fun h' tk e hk he => ?_) (PySem.F.args_zip_next_1 _))))
    obtain ⟨o, ho, hc⟩ := he
    exact wpAny_bind (wpAny_isInstance (T := "StopIteration") (b := true) ⟨o, ho, hc⟩ isSubtype_stop (wpAny_pure (hQ _ _ hk)))
  | cons T r =>
    obtain ⟨f, hz⟩ := (show ∃ f, IsZipHeld s.heap (c 6) (c 4) (c 5) T f from O)
    have hT : s.TypeIs (.ref (c 6)) "zip" := ⟨_, hz, rfl⟩
    obtain ⟨_, _, _, _, _, _, _, _, _, _, _, hT0⟩ := W.at_ 0 T rfl
    unfold pyNext
    refine wpAny_bind (wpAny_attempt (wpAny_callSpecial?_slot (name := Str.ofString "__next__") hT PySem.F.slot_zip_next
      (wpAny_call_entry PySem.F.slot_zip_next hT PySem.F.entry_zip_next (end4_held hh S hz hT0 Z L.l1 e1 fun h' e hk he => ?_) (PySem.F.args_zip_next_1 _))))
    obtain ⟨o, ho, hc⟩ := he
    exact wpAny_bind (wpAny_isInstance (T := "StopIteration") (b := true) ⟨o, ho, hc⟩ isSubtype_stop (wpAny_pure (hQ _ s.toks hk)))
/-- the list that is filled -/
abbrev Fill (h : Heap) (D : Addr) (Ts : List Addr) : Prop := ∃ cap, h.get? D = some { cls := .type "list", dict := none, data := .seq (Ts.map Value.ref).toArray cap, slots := #[] }
/-- what stands behind the loop -/
structure Done4 (c : Nat → Addr) (N D : Addr) (y1 y2 y3 y4 : Array Value) (s s' : Shared) (Ts : List Addr) : Prop where
  len : Ts.length = y1.size
  lst : Fill s'.heap D Ts
  rows : Rows4 c N D y1 y2 y3 y4 Ts s'.heap
  old : ∀ b o, b < N → s.heap.get? b = some o → s'.heap.get? b = some o
  gens : s'.gens = s.gens
  drawn : s'.drawn = s.drawn
  os : s'.os = s.os
theorem loop4 (hh : A.handled = none) (S : Sep c l1 l2 l3 l4) {N D : Addr} {res : Value} (hc : ∀ a, N ≤ c a) (hD : N ≤ D) (hDc : ∀ a, a < 7 → D ≠ c a) (h1 : l1 < N) (h2 : l2 < N) (h3 : l3 < N) (h4 : l4 < N) (z2 : y2.size = y1.size) (z3 : y3.size = y1.size) (z4 : y4.size = y1.size) (hz : y1.size ≤ 1000000) :
    ∀ (k i : Nat) (s : Shared) (Ts : List Addr), y1.size - i = k → i ≤ y1.size → Ts.length = i → Fill s.heap D Ts → Z4 c l1 l2 l3 l4 i s.heap → Zout c s.heap Ts → Rows4 c N D y1 y2 y3 y4 Ts s.heap → L4 l1 l2 l3 l4 y1 y2 y3 y4 s.heap → D < s.heap.objs.size →
      (∀ s' Ts', Done4 c N D y1 y2 y3 y4 s s' Ts' → R (.ok (.ret res)) s') → codeAny (model prog w) A (.builtin "list.extend.loop" ⟨[.ref D, .ref (c 6), res], []⟩) R s := by
  have hsl := sizeLine_eq
  intro k
  induction k with
  | zero =>
    intro i s Ts hk hi hT hF Z O W L hDs hR
    have hin : i = y1.size := by omega
    refine codeAny_builtin PySem.F.entry_extend_loop ?_
    rw [Around.under_plainId PySem.F.plain_extend_loop _]
    show wpAny _ A.in1 (pyNext (.ref (c 6)) >>= _) _ _ s
    refine wpAny_bind (pyNext4_end hh S Z O W L (by simp [hin]) fun h' tk hk => ?_)
    have out : ∀ b o, (∀ a, a < 7 → b ≠ c a) → s.heap.get? b = some o → h'.get? b = some o := fun b o hb q => hk b o hb q
    refine wpAny_pure (hR _ Ts ⟨by omega, ?_, ⟨W.nd, fun j T e => ?_⟩, fun b o hb q => out b o (fun a _ => Nat.ne_of_lt (Nat.lt_of_lt_of_le hb (hc a))) q, rfl, rfl, rfl⟩)
    · obtain ⟨cap, e⟩ := hF
      exact ⟨cap, out _ _ hDc e⟩
    · obtain ⟨q1, q2, q3, u1, u2, u3, u4, w1, w2, w3, w4, q4⟩ := W.at_ j T e
      exact ⟨q1, q2, q3, u1, u2, u3, u4, w1, w2, w3, w4, hk _ _ q3 q4⟩
  | succ k ih =>
    intro i s Ts hk hi hT hF Z O W L hDs hR
    have hlt : i < y1.size := by omega
    refine codeAny_builtin PySem.F.entry_extend_loop ?_
    rw [Around.under_plainId PySem.F.plain_extend_loop _]
    show wpAny _ A.in1 (pyNext (.ref (c 6)) >>= _) _ _ s
    have e1 : y1[i]? = some y1[i] := by simp [hlt]
    have e2 : y2[i]? = some (y2[i]'(by omega)) := by simp
    have e3 : y3[i]? = some (y3[i]'(by omega)) := by simp
    have e4 : y4[i]? = some (y4[i]'(by omega)) := by simp
    refine wpAny_bind (pyNext4 S Z O W L e1 e2 e3 e4 fun h' tk Z' O' hT' hsz hkp => ?_)
    obtain ⟨cap, hF⟩ := hF
    have hF' : h'.get? D = some { cls := .type "list", dict := none, data := .seq (Ts.map Value.ref).toArray cap, slots := #[] } := hkp _ _ hDc hF
    show wpAny _ A.in1 (updateSeq D (·.push (.ref s.heap.objs.size)) >>= _) _ _ _
    refine wpAny_bind ?_
    have hgs : (Ts.map Value.ref).toArray.size = i := by simp [hT]
    refine wpAny_updateSeq hF' rfl (wpAny_pure ⟨plainId_quiet PySem.F.plain_extend_loop _, ?_⟩) (by rw [hgs]; omega) (by show ((Ts.map Value.ref).toArray.push (.ref s.heap.objs.size)).size ≤ sizeLine + 1; rw [Array.size_push, hgs]; omega)
    have oth : ∀ b o, b ≠ D → h'.get? b = some o → (h'.update D (Obj.mapSeq (·.push (.ref s.heap.objs.size)))).get? b = some o := fun b o hb q => (Heap.get?_update_other _ _ (Ne.symm hb)).trans q
    have hself := Heap.get?_update_self (Obj.mapSeq (·.push (Value.ref s.heap.objs.size))) hF' rfl
    have hns : ∀ a, a < 7 → s.heap.objs.size ≠ c a := by
      intro a ha e
      have z0 : c a < s.heap.objs.size := by
        have hzz : ∃ o, s.heap.get? (c 6) = some o := by
          cases Ts with
          | nil => exact ⟨_, (show IsZip s.heap (c 6) (c 4) (c 5) .none from O)⟩
          | cons T r =>
            obtain ⟨f, q⟩ := (show ∃ f, IsZipHeld s.heap (c 6) (c 4) (c 5) T f from O)
            exact ⟨_, q⟩
        obtain ⟨oz, hzz⟩ := hzz
        obtain ⟨b1, b2, b3, b4, hto⟩ := Z.to
        obtain ⟨o1, g1, _⟩ := Z.i1
        obtain ⟨o2, g2, _⟩ := Z.i2
        obtain ⟨o3, g3, _⟩ := Z.i3
        obtain ⟨o4, g4, _⟩ := Z.i4
        match a, ha with
        | 0, _ => exact Heap.lt_size g1
        | 1, _ => exact Heap.lt_size g2
        | 2, _ => exact Heap.lt_size g3
        | 3, _ => exact Heap.lt_size g4
        | 4, _ => exact Heap.lt_size Z.ti
        | 5, _ => exact Heap.lt_size hto
        | 6, _ => exact Heap.lt_size hzz
      rw [← e] at z0
      exact Nat.lt_irrefl _ z0
    have hFill : Fill (h'.update D (Obj.mapSeq (·.push (.ref s.heap.objs.size)))) D (Ts ++ [s.heap.objs.size]) := by
      have e : ((Ts.map Value.ref).toArray.push (Value.ref s.heap.objs.size)) = ((Ts ++ [s.heap.objs.size]).map Value.ref).toArray := by simp
      show ∃ cap, Heap.get? _ D = some { cls := .type "list", dict := none, data := .seq ((Ts ++ [s.heap.objs.size]).map Value.ref).toArray cap, slots := #[] }
      rw [← e]
      exact ⟨_, hself⟩
    refine ih (i + 1) _ (Ts ++ [s.heap.objs.size]) (by omega) hlt (by rw [List.length_append, hT]; rfl) hFill ?_ ?_ ⟨?_, ?_⟩ ?_ ?_ fun s' Ts' d => hR s' Ts' ⟨d.len, d.lst, d.rows, fun b o hb q => d.old b o hb ?_, d.gens, d.drawn, d.os⟩
    · obtain ⟨q1, ⟨b1, b2, b3, b4, q2⟩, q3, q4, q5, q6⟩ := Z'
      exact ⟨oth _ _ (Ne.symm (hDc 4 (by decide))) q1, ⟨b1, b2, b3, b4, oth _ _ (Ne.symm (hDc 5 (by decide))) q2⟩, q3.at fun o q => oth _ _ (Ne.symm (hDc 0 (by decide))) q, q4.at fun o q => oth _ _ (Ne.symm (hDc 1 (by decide))) q, q5.at fun o q => oth _ _ (Ne.symm (hDc 2 (by decide))) q, q6.at fun o q => oth _ _ (Ne.symm (hDc 3 (by decide))) q⟩
    · cases Ts with
      | nil =>
        obtain ⟨f, q⟩ := (show ∃ f, IsZipHeld h' (c 6) (c 4) (c 5) s.heap.objs.size f from O')
        exact ⟨f, oth _ _ (Ne.symm (hDc 6 (by decide))) q⟩
      | cons T r =>
        obtain ⟨f, q⟩ := (show ∃ f, IsZipHeld h' (c 6) (c 4) (c 5) T f from O')
        exact ⟨f, oth _ _ (Ne.symm (hDc 6 (by decide))) q⟩
    · rw [List.nodup_append]
      refine ⟨W.nd, by simp, fun a ha b hb => ?_⟩
      rw [List.mem_singleton.mp hb]
      exact Nat.ne_of_lt (W.lt ha)
    · intro j T e
      by_cases hj : j < Ts.length
      · rw [List.getElem?_append_left hj] at e
        obtain ⟨q1, q2, q3, u1, u2, u3, u4, w1, w2, w3, w4, q4⟩ := W.at_ j T e
        exact ⟨q1, q2, q3, u1, u2, u3, u4, w1, w2, w3, w4, oth _ _ q2 (hkp _ _ q3 q4)⟩
      · have ej : j = i := by
          have := (List.getElem?_eq_some_iff.mp e).1
          rw [List.length_append] at this
          simp at this
          omega
        subst ej
        rw [List.getElem?_append_right (by omega), hT, Nat.sub_self] at e
        cases e
        exact ⟨Nat.le_of_lt (Nat.lt_of_le_of_lt hD hDs), Nat.ne_of_gt hDs, hns, _, _, _, _, e1, e2, e3, e4, oth _ _ (Nat.ne_of_gt hDs) hT'⟩
    · obtain ⟨q1, q2, q3, q4⟩ := L
      have kl : ∀ {l : Addr} {ys : Array Value}, l < N → s.heap.IsList l ys → (h'.update D (Obj.mapSeq (·.push (.ref s.heap.objs.size)))).IsList l ys := fun hl q => q.at fun o e => oth _ _ (Nat.ne_of_lt (Nat.lt_of_lt_of_le hl hD)) (hkp _ _ (fun a _ => Nat.ne_of_lt (Nat.lt_of_lt_of_le hl (hc a))) e)
      exact ⟨kl h1 q1, kl h2 q2, kl h3 q3, kl h4 q4⟩
    · have : (h'.update D (Obj.mapSeq (·.push (.ref s.heap.objs.size)))).objs.size = h'.objs.size := Heap.size_update ..
      show D < (h'.update D (Obj.mapSeq (·.push (.ref s.heap.objs.size)))).objs.size
      rw [this, hsz]
      exact Nat.lt_succ_of_lt hDs
    · exact oth _ _ (Nat.ne_of_lt (Nat.lt_of_lt_of_le hb hD)) (hkp _ _ (fun a _ => Nat.ne_of_lt (Nat.lt_of_lt_of_le hb (hc a))) q)
/-- D.extend(the zip), D new -/
theorem extend4 {s : Shared} {N D : Addr} {res : Value} {cap : Nat} (hh : A.handled = none) (S : Sep c l1 l2 l3 l4) (hc : ∀ a, N ≤ c a) (hD : N ≤ D) (hDc : ∀ a, a < 7 → D ≠ c a) (h1 : l1 < N) (h2 : l2 < N) (h3 : l3 < N) (h4 : l4 < N) (z2 : y2.size = y1.size) (z3 : y3.size = y1.size)
    (z4 : y4.size = y1.size) (hz : y1.size ≤ 1000000) (hF : s.heap.get? D = some { cls := .type "list", dict := none, data := .seq #[] cap, slots := #[] }) (Z : Z4 c l1 l2 l3 l4 0 s.heap) (O : IsZip s.heap (c 6) (c 4) (c 5) .none) (L : L4 l1 l2 l3 l4 y1 y2 y3 y4 s.heap)
    (hR : ∀ s' Ts', Done4 c N D y1 y2 y3 y4 s s' Ts' → R (.ok (.ret res)) s') :
    wpAny (model prog w) A.in1 (Builtin.List.listExtendWith (.ref D) (.ref (c 6)) res)
      (fun fin s' => match fin with | .done f => R (.ok f) s' | .again c' => c'.quiet = true ∧ codeAny (model prog w) A c' R s') (fun e s' => R (.error e) s') s := by
  have hT : s.TypeIs (.ref (c 6)) "zip" := ⟨_, O, rfl⟩
  unfold Builtin.List.listExtendWith
  refine wpAny_bind (wpAny_typeOf hT ?_)
  have a1 : Builtin.List.listSameRef (.ref D) (.ref (c 6)) = false := by simp [Builtin.List.listSameRef, hDc 6 (by decide)]
  have a2 : (Value.type "zip" == Value.type "list") = false := by decide
  have a3 : (Value.type "zip" == Value.type "tuple") = false := by decide
  simp only [a1, a2, a3, Bool.or_false, Bool.false_eq_true, if_false]
  refine wpAny_bind (wpAny_pyIter_zip O ?_)
  refine wpAny_bind (wpAny_holding ?_)
  unfold Builtin.List.listLengthHint
  refine wpAny_bind (wpAny_specialOf hT nolen_zip ?_)
  show wpAny _ A.in1 (specialOf (Value.ref (c 6)) (Str.ofString "__length_hint__") >>= _) _ _ _
  refine wpAny_bind (wpAny_specialOf hT nohint_zip ?_)
  refine wpAny_pure ?_
  show wpAny _ A.in1 (rule "list.extend.makes-room" >>= fun _ => Builtin.List.listTouch (.ref D) >>= fun _ => again (.builtin "list.extend.loop" ⟨[.ref D, .ref (c 6), res], []⟩)) _ _ _
  refine wpAny_bind (wpAny_rule (wpAny_bind ?_))
  show wpAny _ A.in1 (updateSeq D (·.push .none) >>= fun _ => updateSeq D (·.pop)) _ _ _
  refine wpAny_bind (wpAny_updateSeq hF rfl ?_)
  have f2 := Heap.get?_update_self (Obj.mapSeq (·.push Value.none)) hF rfl
  refine wpAny_updateSeq (hz := by seq_fits) f2 rfl ?_
  have f3 := Heap.get?_update_self (Obj.mapSeq (·.pop)) f2 rfl
  have oth : ∀ b o, b ≠ D → s.heap.get? b = some o → ((s.heap.update D (Obj.mapSeq (·.push Value.none))).update D (Obj.mapSeq (·.pop))).get? b = some o :=
    fun b o hb q => (Heap.get?_update_other _ _ (Ne.symm hb)).trans ((Heap.get?_update_other _ _ (Ne.symm hb)).trans q)
  have hs : ((s.heap.update D (Obj.mapSeq (·.push Value.none))).update D (Obj.mapSeq (·.pop))).objs.size = s.heap.objs.size := (Heap.size_update ..).trans (Heap.size_update ..)
  refine wpAny_pure ⟨plainId_quiet PySem.F.plain_extend_loop _, loop4 hh S hc hD hDc h1 h2 h3 h4 z2 z3 z4 hz _ 0 _ [] rfl (Nat.zero_le _) rfl ⟨_, f3⟩ ?_ (oth _ _ (Ne.symm (hDc 6 (by decide))) O) ⟨List.nodup_nil, fun j T e => by simp at e⟩ ?_ ?_ fun s' Ts' d => hR s' Ts' ⟨d.len, d.lst, d.rows, fun b o hb q => d.old b o hb (oth _ _ (Nat.ne_of_lt (Nat.lt_of_lt_of_le hb hD)) q), d.gens, d.drawn, d.os⟩⟩
  · obtain ⟨q1, ⟨b1, b2, b3, b4, q2⟩, q3, q4, q5, q6⟩ := Z
    exact ⟨oth _ _ (Ne.symm (hDc 4 (by decide))) q1, ⟨b1, b2, b3, b4, oth _ _ (Ne.symm (hDc 5 (by decide))) q2⟩, q3.at fun o q => oth _ _ (Ne.symm (hDc 0 (by decide))) q, q4.at fun o q => oth _ _ (Ne.symm (hDc 1 (by decide))) q, q5.at fun o q => oth _ _ (Ne.symm (hDc 2 (by decide))) q, q6.at fun o q => oth _ _ (Ne.symm (hDc 3 (by decide))) q⟩
  · obtain ⟨q1, q2, q3, q4⟩ := L
    have kl : ∀ {l : Addr} {ys : Array Value}, l < N → s.heap.IsList l ys → ((s.heap.update D (Obj.mapSeq (·.push Value.none))).update D (Obj.mapSeq (·.pop))).IsList l ys := fun hl q => q.at fun o e => oth _ _ (Nat.ne_of_lt (Nat.lt_of_lt_of_le hl hD)) e
    exact ⟨kl h1 q1, kl h2 q2, kl h3 q3, kl h4 q4⟩
  · show D < ((s.heap.update D (Obj.mapSeq (·.push Value.none))).update D (Obj.mapSeq (·.pop))).objs.size
    rw [hs]
    exact Heap.lt_size hF
end
section
variable {prog : Program} {w : World} {A : Around} {E : Value → Shared → Prop} {l1 l2 l3 l4 : Addr} {y1 y2 y3 y4 : Array Value}
/-- list(the zip) -/
theorem call_list4 {s : Shared} {c : Nat → Addr} {N : Addr} {Q : Value → Shared → Prop} (hh : A.handled = none) (S : Sep c l1 l2 l3 l4) (hc : ∀ a, N ≤ c a) (hcs : ∀ a, a < 7 → c a < s.heap.objs.size) (h1 : l1 < N) (h2 : l2 < N) (h3 : l3 < N) (h4 : l4 < N) (z2 : y2.size = y1.size)
    (z3 : y3.size = y1.size) (z4 : y4.size = y1.size) (hz : y1.size ≤ 1000000) (hN : N ≤ s.heap.objs.size) (Z : Z4 c l1 l2 l3 l4 0 s.heap) (O : IsZip s.heap (c 6) (c 4) (c 5) .none) (L : L4 l1 l2 l3 l4 y1 y2 y3 y4 s.heap)
    (hQ : ∀ s' D Ts', N ≤ D → Done4 c N D y1 y2 y3 y4 s s' Ts' → Q (.ref D) s') : wpAny (model prog w) A (call (.type "list") [.ref (c 6)]) Q E s := by
  refine callType_codes (Q₁ := fun obj s₁ => obj = .ref s.heap.objs.size ∧ s₁ = { s with heap := s.heap.push { cls := .type "list", data := .seq #[] } }) PySem.F.called_list (PySem.F.typeCall_list_1 _) PySem.F.entry_list_init
    (code_list_new _ ⟨rfl, rfl⟩) fun obj s₁ e => ?_
  obtain ⟨rfl, rfl⟩ := e
  have up : ∀ b o, s.heap.get? b = some o → (s.heap.push { cls := .type "list", data := .seq #[] }).get? b = some o := fun b o q => Heap.get?_push_of_some _ q
  have f0 : (s.heap.push { cls := .type "list", data := .seq #[] }).get? s.heap.objs.size = some { cls := .type "list", data := .seq #[] } := Heap.get?_push_size _ rfl
  refine ⟨⟨_, f0, rfl⟩, PySem.F.args_list_init_2 _ _, ?_⟩
  show wpAny _ _ (do let old ← Builtin.List.listItems (.ref s.heap.objs.size); Builtin.List.listUpdate (.ref s.heap.objs.size) (fun _ => #[]); letGo old.toList.reverse; Builtin.List.listExtendWith (.ref s.heap.objs.size) (.ref (c 6)) .none) _ _ _
  refine wpAny_bind ?_
  unfold Builtin.List.listItems
  refine wpAny_bind (wpAny_seqItems f0 rfl (wpAny_pure ?_))
  show wpAny _ _ (updateSeq s.heap.objs.size (fun _ => #[]) >>= fun _ => letGo (#[] : Array Value).toList.reverse >>= fun _ => Builtin.List.listExtendWith (.ref s.heap.objs.size) (.ref (c 6)) .none) _ _ _
  refine wpAny_bind (wpAny_updateSeq f0 rfl ?_)
  have f1 := Heap.get?_update_self (Obj.mapSeq (fun _ => (#[] : Array Value))) f0 rfl
  have oth : ∀ b o, b ≠ s.heap.objs.size → s.heap.get? b = some o → ((s.heap.push { cls := .type "list", data := .seq #[] }).update s.heap.objs.size (Obj.mapSeq (fun _ => (#[] : Array Value)))).get? b = some o :=
    fun b o hb q => (Heap.get?_update_other _ _ (Ne.symm hb)).trans (up b o q)
  have hDc : ∀ a, a < 7 → s.heap.objs.size ≠ c a := fun a ha => Nat.ne_of_gt (hcs a ha)
  refine wpAny_bind (wpAny_letGo ?_)
  refine extend4 (s := { s with heap := (s.heap.push { cls := .type "list", data := .seq #[] }).update s.heap.objs.size (Obj.mapSeq (fun _ => (#[] : Array Value))) }) hh S hc hN hDc h1 h2 h3 h4 z2 z3 z4 hz f1 ?_ (oth _ _ (Ne.symm (hDc 6 (by decide))) O) ?_
    fun s' Ts' d => ⟨rfl, hQ s' _ Ts' hN ⟨d.len, d.lst, d.rows, fun b o hb q => d.old b o hb (oth _ _ (Nat.ne_of_lt (Nat.lt_of_lt_of_le hb hN)) q), d.gens, d.drawn, d.os⟩⟩
  · obtain ⟨q1, ⟨b1, b2, b3, b4, q2⟩, q3, q4, q5, q6⟩ := Z
    exact ⟨oth _ _ (Ne.symm (hDc 4 (by decide))) q1, ⟨b1, b2, b3, b4, oth _ _ (Ne.symm (hDc 5 (by decide))) q2⟩, q3.at fun o q => oth _ _ (Ne.symm (hDc 0 (by decide))) q, q4.at fun o q => oth _ _ (Ne.symm (hDc 1 (by decide))) q, q5.at fun o q => oth _ _ (Ne.symm (hDc 2 (by decide))) q, q6.at fun o q => oth _ _ (Ne.symm (hDc 3 (by decide))) q⟩
  · obtain ⟨q1, q2, q3, q4⟩ := L
    exact ⟨q1.at fun o e => oth _ _ (Nat.ne_of_lt (Nat.lt_of_lt_of_le h1 hN)) e, q2.at fun o e => oth _ _ (Nat.ne_of_lt (Nat.lt_of_lt_of_le h2 hN)) e, q3.at fun o e => oth _ _ (Nat.ne_of_lt (Nat.lt_of_lt_of_le h3 hN)) e, q4.at fun o e => oth _ _ (Nat.ne_of_lt (Nat.lt_of_lt_of_le h4 hN)) e⟩
end
end Kin

set_option maxHeartbeats 4000000
namespace Kin
open PySem PySem.Spec PyProof.Rows L2
theorem typeCall_zip4 (a b c d : Value) : checkTypeCall "zip" ⟨[a, b, c, d], []⟩ = pure () := by kernel_rfl
theorem newCall_zip4 (a b c d : Value) : checkBuiltinCall "zip.__new__" ⟨[.type "zip", a, b, c, d], []⟩ = pure () := by kernel_rfl
theorem args_init5 (o a b c d : Value) : argsOk "object.__init__" ⟨[o, a, b, c, d], []⟩ := by unfold argsOk; kernel_rfl
abbrev lit (l : Addr) : Obj := { cls := .type "list_iterator", data := .fields #[.ref l, .int 0 0] }
abbrev hp1 (h : Heap) (l1 : Addr) : Heap := h.push (lit l1)
abbrev hp2 (h : Heap) (l1 l2 : Addr) : Heap := (hp1 h l1).push (lit l2)
abbrev hp3 (h : Heap) (l1 l2 l3 : Addr) : Heap := (hp2 h l1 l2).push (lit l3)
abbrev hp4 (h : Heap) (l1 l2 l3 l4 : Addr) : Heap := (hp3 h l1 l2 l3).push (lit l4)
abbrev hp5 (h : Heap) (l1 l2 l3 l4 : Addr) : Heap := (hp4 h l1 l2 l3 l4).push { cls := .type "tuple", data := .seq #[.ref h.objs.size, .ref (hp1 h l1).objs.size, .ref (hp2 h l1 l2).objs.size, .ref (hp3 h l1 l2 l3).objs.size] }
abbrev hp6 (h : Heap) (l1 l2 l3 l4 : Addr) : Heap := (hp5 h l1 l2 l3 l4).push { cls := .type "tuple", data := .seq #[.none, .none, .none, .none] }
abbrev hp7 (h : Heap) (l1 l2 l3 l4 : Addr) : Heap := (hp6 h l1 l2 l3 l4).push { cls := .type "zip", data := .fields #[.none, .bool false, .bool false, .ref (hp4 h l1 l2 l3 l4).objs.size, .ref (hp5 h l1 l2 l3 l4).objs.size] }
theorem meets_zip4 (l1 l2 l3 l4 : Addr) (y1 y2 y3 y4 : Array Value) :
    Meets (Builtin.«zip.__new__» ⟨[.type "zip", .ref l1, .ref l2, .ref l3, .ref l4], []⟩) (fun _ R s => L4 l1 l2 l3 l4 y1 y2 y3 y4 s.heap ∧ R (.ok (.ret (.ref (hp6 s.heap l1 l2 l3 l4).objs.size))) { s with heap := hp7 s.heap l1 l2 l3 l4 }) :=
  .of_wp fun prog w A R s h => by
    obtain ⟨hp, g, d, tk, os⟩ := s
    obtain ⟨⟨h1, h2, h3, h4⟩, h⟩ := h
    have hsub := sub_zip
    have u : ∀ {x : Heap} {o' : Obj} {l : Addr} {y : Array Value}, x.IsList l y → (x.push o').IsList l y := fun q => q.at fun o e => Heap.get?_push_of_some _ e
    have q1 : ∀ {A' : Around} {E : Value → Shared → Prop} {Q : Value → Shared → Prop}, Q (.ref hp.objs.size) ⟨hp1 hp l1, g, d, tk, os⟩ → wpAny (model prog w) A' (pyIter (.ref l1)) Q E ⟨hp, g, d, tk, os⟩ := fun q => wpAny_pyIter_list h1 q
    have q2 : ∀ {A' : Around} {E : Value → Shared → Prop} {Q : Value → Shared → Prop}, Q (.ref (hp1 hp l1).objs.size) ⟨hp2 hp l1 l2, g, d, tk, os⟩ → wpAny (model prog w) A' (pyIter (.ref l2)) Q E ⟨hp1 hp l1, g, d, tk, os⟩ := fun q => wpAny_pyIter_list (u h2) q
    have q3 : ∀ {A' : Around} {E : Value → Shared → Prop} {Q : Value → Shared → Prop}, Q (.ref (hp2 hp l1 l2).objs.size) ⟨hp3 hp l1 l2 l3, g, d, tk, os⟩ → wpAny (model prog w) A' (pyIter (.ref l3)) Q E ⟨hp2 hp l1 l2, g, d, tk, os⟩ := fun q => wpAny_pyIter_list (u (u h3)) q
    have q4 : ∀ {A' : Around} {E : Value → Shared → Prop} {Q : Value → Shared → Prop}, Q (.ref (hp3 hp l1 l2 l3).objs.size) ⟨hp4 hp l1 l2 l3 l4, g, d, tk, os⟩ → wpAny (model prog w) A' (pyIter (.ref l4)) Q E ⟨hp3 hp l1 l2 l3, g, d, tk, os⟩ := fun q => wpAny_pyIter_list (u (u (u h4))) q
    wp_walk using q1, q2, q3, q4
    exact ⟨_, rfl, h⟩
section
variable {prog : Program} {w : World} {A : Around} {E : Value → Shared → Prop} {s : Shared} {l1 l2 l3 l4 : Addr} {y1 y2 y3 y4 : Array Value}
theorem begin4 {Q : Value → Shared → Prop} (L : L4 l1 l2 l3 l4 y1 y2 y3 y4 s.heap)
    (h : ∀ h', IsZip h' (s.heap.objs.size + 6) (s.heap.objs.size + 4) (s.heap.objs.size + 5) .none → Z4 (fun k => s.heap.objs.size + k) l1 l2 l3 l4 0 h' → h'.objs.size = s.heap.objs.size + 7 → (∀ b o, s.heap.get? b = some o → h'.get? b = some o) → Q (.ref (s.heap.objs.size + 6)) { s with heap := h' }) :
    wpAny (model prog w) A (call (.type "zip") [.ref l1, .ref l2, .ref l3, .ref l4]) Q E s := by
  refine callType_new PySem.F.called_zip (by decide) (typeCall_zip4 _ _ _ _) (newCall_zip4 _ _ _ _) (fun obj => args_init5 obj _ _ _ _) PySem.F.entry_zip_new (meets_zip4 l1 l2 l3 l4 y1 y2 y3 y4) ⟨L, ?_⟩
  have z1 : (hp1 s.heap l1).objs.size = s.heap.objs.size + 1 := Heap.size_push ..
  have z2 : (hp2 s.heap l1 l2).objs.size = s.heap.objs.size + 2 := (Heap.size_push ..).trans (by rw [z1])
  have z3 : (hp3 s.heap l1 l2 l3).objs.size = s.heap.objs.size + 3 := (Heap.size_push ..).trans (by rw [z2])
  have z4 : (hp4 s.heap l1 l2 l3 l4).objs.size = s.heap.objs.size + 4 := (Heap.size_push ..).trans (by rw [z3])
  have z5 : (hp5 s.heap l1 l2 l3 l4).objs.size = s.heap.objs.size + 5 := (Heap.size_push ..).trans (by rw [z4])
  have z6 : (hp6 s.heap l1 l2 l3 l4).objs.size = s.heap.objs.size + 6 := (Heap.size_push ..).trans (by rw [z5])
  have z7 : (hp7 s.heap l1 l2 l3 l4).objs.size = s.heap.objs.size + 7 := (Heap.size_push ..).trans (by rw [z6])
  have p : ∀ {x : Heap} {o' o : Obj} {b : Addr}, x.get? b = some o → (x.push o').get? b = some o := fun q => Heap.get?_push_of_some _ q
  have gZ : (hp7 s.heap l1 l2 l3 l4).get? (hp6 s.heap l1 l2 l3 l4).objs.size = some { cls := .type "zip", data := .fields #[.none, .bool false, .bool false, .ref (hp4 s.heap l1 l2 l3 l4).objs.size, .ref (hp5 s.heap l1 l2 l3 l4).objs.size] } := Heap.get?_push_size _ rfl
  have gO : (hp7 s.heap l1 l2 l3 l4).get? (hp5 s.heap l1 l2 l3 l4).objs.size = some { cls := .type "tuple", data := .seq #[.none, .none, .none, .none] } := p (Heap.get?_push_size _ rfl)
  have gT : (hp7 s.heap l1 l2 l3 l4).get? (hp4 s.heap l1 l2 l3 l4).objs.size = some { cls := .type "tuple", data := .seq #[.ref s.heap.objs.size, .ref (hp1 s.heap l1).objs.size, .ref (hp2 s.heap l1 l2).objs.size, .ref (hp3 s.heap l1 l2 l3).objs.size] } := p (p (Heap.get?_push_size _ rfl))
  have g4 : (hp7 s.heap l1 l2 l3 l4).get? (hp3 s.heap l1 l2 l3).objs.size = some (lit l4) := p (p (p (Heap.get?_push_size _ rfl)))
  have g3 : (hp7 s.heap l1 l2 l3 l4).get? (hp2 s.heap l1 l2).objs.size = some (lit l3) := p (p (p (p (Heap.get?_push_size _ rfl))))
  have g2 : (hp7 s.heap l1 l2 l3 l4).get? (hp1 s.heap l1).objs.size = some (lit l2) := p (p (p (p (p (Heap.get?_push_size _ rfl)))))
  have g1 : (hp7 s.heap l1 l2 l3 l4).get? s.heap.objs.size = some (lit l1) := p (p (p (p (p (p (Heap.get?_push_size _ rfl))))))
  have kp : ∀ b o, s.heap.get? b = some o → (hp7 s.heap l1 l2 l3 l4).get? b = some o := fun b o q => p (p (p (p (p (p (p q))))))
  show _ ∧ _
  generalize hp7 s.heap l1 l2 l3 l4 = h' at z7 gZ gO gT g4 g3 g2 g1 kp ⊢
  rw [z6, z4, z5] at gZ
  rw [z5] at gO
  rw [z4, z1, z2, z3] at gT
  rw [z3] at g4
  rw [z2] at g3
  rw [z1] at g2
  rw [z6]
  exact ⟨⟨_, gZ, rfl⟩, h h' gZ ⟨gT, ⟨_, _, _, _, gO⟩, ⟨_, g1, rfl, rfl⟩, ⟨_, g2, rfl, rfl⟩, ⟨_, g3, rfl, rfl⟩, ⟨_, g4, rfl, rfl⟩⟩ z7 kp⟩
/-- list(zip(a, b, c, d)) -/
theorem list_zip4 {Q : Value → Shared → Prop} (hh : A.handled = none) (L : L4 l1 l2 l3 l4 y1 y2 y3 y4 s.heap) (z2 : y2.size = y1.size) (z3 : y3.size = y1.size) (z4 : y4.size = y1.size) (hz : y1.size ≤ 1000000)
    (hQ : ∀ s' D Ts, s.heap.objs.size ≤ D → Done4 (fun k => s.heap.objs.size + k) s.heap.objs.size D y1 y2 y3 y4 s s' Ts → Q (.ref D) s') :
    wpAny (model prog w) A (call (.type "zip") [.ref l1, .ref l2, .ref l3, .ref l4]) (fun v s1 => wpAny (model prog w) A (call (.type "list") [v]) Q E s1) E s := by
  have lt : ∀ {l : Addr} {y : Array Value}, s.heap.IsList l y → l < s.heap.objs.size := fun q => by
    obtain ⟨o, e, _⟩ := q
    exact Heap.lt_size e
  refine begin4 L fun h' hz' Z hs kp => ?_
  have S : Sep (fun k => s.heap.objs.size + k) l1 l2 l3 l4 := by
    have ll : ∀ {l : Addr} {y : Array Value}, s.heap.IsList l y → ∀ a, l ≠ s.heap.objs.size + a := fun q a => Nat.ne_of_lt (Nat.lt_of_lt_of_le (lt q) (Nat.le_add_right _ _))
    exact ⟨fun a b n e => n (Nat.add_left_cancel e), ll L.l1, ll L.l2, ll L.l3, ll L.l4⟩
  have L' : L4 l1 l2 l3 l4 y1 y2 y3 y4 h' := ⟨L.l1.at fun o e => kp _ _ e, L.l2.at fun o e => kp _ _ e, L.l3.at fun o e => kp _ _ e, L.l4.at fun o e => kp _ _ e⟩
  refine call_list4 (s := { s with heap := h' }) (c := fun k => s.heap.objs.size + k) (N := s.heap.objs.size) hh S (fun a => Nat.le_add_right _ _) (fun a ha => ?_) (lt L.l1) (lt L.l2) (lt L.l3) (lt L.l4) z2 z3 z4 hz ?_ Z hz' L'
    fun s' D Ts hD d => hQ s' D Ts hD ⟨d.len, d.lst, d.rows, fun b o hb q => d.old b o hb (kp b o q), d.gens, d.drawn, d.os⟩
  · show s.heap.objs.size + a < h'.objs.size
    rw [hs]
    exact Nat.add_lt_add_left ha _
  · show s.heap.objs.size ≤ h'.objs.size
    rw [hs]
    exact Nat.le_add_right _ _
end
end Kin

set_option maxHeartbeats 4000000
namespace Kin
open PySem PySem.Spec PyProof.Rows L2
/-- many new things are tracked -/
theorem laidAll {X : Cx} {pins : List (Addr × Obj)} {σ : L2.St} {H H' : Hp} {s : Shared} {h' : Heap} {t' : Nat} (I : Inv X pins σ H s) (k : ∀ b u, s.heap.get? b = some u → h'.get? b = some u)
    (old : ∀ b, b < s.heap.objs.size → H' b = H b) (new : ∀ b o, s.heap.objs.size ≤ b → H' b = some o → ObjOk X.prog X.w H' h' b o) : Inv X pins σ H' { s with heap := h', toks := t' } := by
  have up : ∀ b u, H b = some u → H' b = some u := fun b u e => by
    rw [old b (Nat.lt_of_not_le fun z => by rw [I.hok.fresh z] at e; cases e)]
    exact e
  refine I.step (g' := s.gens) (d' := s.drawn) (ch := []) (fun _ z => nomatch z) (fun b o _ _ _ e _ => k b o e) (fun b o _ _ _ e _ => ⟨o.slots, k b o e⟩) (fun b o _ e n => ?_) (fun b o _ e => ⟨o, k b o e⟩) (fun b xs e => up _ _ e) (fun b o u e => up _ _ e) (fun b ps e => ⟨#[], ?_⟩) (fun m hm => ?_) (fun b u e => ?_) I.bare
  · rw [old b (Heap.lt_size e)]; exact n
  · rw [up _ _ e]; simp
  · obtain ⟨o, es, ep, ho, r⟩ := hm
    exact ⟨o, es, ep, k _ o ho, r⟩
  · by_cases hb : b < s.heap.objs.size
    · rw [old b hb] at e
      exact (I.hok b u e).stay (fun c v _ q => k c v q) (fun c q => up _ _ q) fun c xs q => up _ _ q
    · exact new b u (Nat.le_of_not_lt hb) e
def row4 (a b c d : List V) (j : Nat) : List V := [a.getD j .non, b.getD j .non, c.getD j .non, d.getD j .non]
def hpZ (H : Hp) (D : Addr) (Ts : List Addr) (r : Nat → List V) : Hp := fun b => if b = D then some (.lst (Ts.map V.ref)) else if b ∈ Ts then some (.tup (r (Ts.idxOf b))) else H b
section
variable {X : Cx} {ta : TA}
/-- list(zip(a, b, c, d)), four lists of one length -/
def tZip4 (K : PySem.W.Frag) (ta : TA) : TE := fun σ H Q => ta σ H fun vs H1 => ∃ (a b c d : Addr) (x1 x2 x3 x4 : List V), vs = [.ref a, .ref b, .ref c, .ref d] ∧ SqL K H1 a x1 ∧ SqL K H1 b x2 ∧ SqL K H1 c x3 ∧ SqL K H1 d x4 ∧
  x2.length = x1.length ∧ x3.length = x1.length ∧ x4.length = x1.length ∧ x1.length ≤ 1000000 ∧
  ∀ H2 D (Ts : List Addr), Same H1 H2 → H2 D = some (.lst (Ts.map V.ref)) → Ts.length = x1.length → (∀ j T, Ts[j]? = some T → H2 T = some (.tup (row4 x1 x2 x3 x4 j))) → Q (.ref D) H2
theorem got {xs : List V} {us : List Value} (r : Vals xs us) {j : Nat} {u : Value} (e : us.toArray[j]? = some u) : RelV (xs.getD j .non) u := by
  have hj : j < us.length := by
    have := (List.getElem?_eq_some_iff.mp (show us[j]? = some u by simpa using e)).1
    exact this
  rw [← r.length] at hj
  obtain ⟨u', e', ru⟩ := r.get (List.getElem?_eq_getElem hj)
  have : u' = u := Option.some.inj (e'.symm.trans (by simpa using e))
  subst this
  rw [List.getD_eq_getElem?_getD, List.getElem?_eq_getElem hj]
  exact ru
theorem Vals.refs : ∀ (Ts : List Addr), Vals (Ts.map V.ref) (Ts.map Value.ref)
  | [] => .nil
  | T :: Ts => .cons rfl (Vals.refs Ts)
theorem pe_listZip4 {a b c d : Expr} {p pos p2 pos2 : Pos} (hc : X.calm = true) (hg : Gl X "list") (hm : X.mg "list" = none) (hg2 : Gl X "zip") (hm2 : X.mg "zip" = none) (ha : PA X [a, b, c, d] ta)
    (hs1 : starEach [.Call (.Name "zip" p2) [a, b, c, d] [] pos2] X.env = (false, eval (.Call (.Name "zip" p2) [a, b, c, d] [] pos2) X.env) :: starEach [] X.env := by rfl)
    (hs : starEach [a, b, c, d] X.env = (false, eval a X.env) :: starEach [b, c, d] X.env := by rfl) (hpl : (backTo pos2 (starEach [b, c, d] X.env)).any (·.1) = false := by rfl) :
    PE X (.Call (.Name "list" p) [.Call (.Name "zip" p2) [a, b, c, d] [] pos2] [] pos) (tZip4 X.K ta) := by
  refine ⟨fun pins s σ H Q I h => ?_⟩
  refine Call_ (ld_blt I hg hm PyProof.Rows.boot_list (PyProof.Rows.callWith_type1 ?_ hs1 rfl))
  refine Calls.spliced_cons ?_
  refine wpAny_Call_Name_kw (ld_blt I hg2 hm2 PyProof.Rows.boot_zip (PyProof.Rows.callWith_type1 (thn (ha.run pos2 pins s σ H _ I h) ?_) hs hpl))
  rintro us s1 ⟨vs, H1, I1, r1, a', b', c', d', x1, x2, x3, x4, rfl, q1, q2, q3, q4, l2, l3, l4, lm, q⟩
  cases r1 with
  | cons e1 r1 =>
  cases r1 with
  | cons e2 r1 =>
  cases r1 with
  | cons e3 r1 =>
  cases r1 with
  | cons e4 r1 =>
  cases r1
  cases e1; cases e2; cases e3; cases e4
  obtain ⟨y1, v1, p1, _⟩ := I1.list q1
  obtain ⟨y2, v2, p2, _⟩ := I1.list q2
  obtain ⟨y3, v3, p3, _⟩ := I1.list q3
  obtain ⟨y4, v4, p4, _⟩ := I1.list q4
  have n1 := v1.length
  have n2 := v2.length
  have n3 := v3.length
  have n4 := v4.length
  have hsl := sizeLine_eq
  refine wpAny_mono (list_zip4 (Q := EP X pins σ Q) (E := X.xe) (I1.ok.hd hc) ⟨p1.isList, p2.isList, p3.isList, p4.isList⟩ (by simp; omega) (by simp; omega) (by simp; omega) (by simp; omega) fun s' D Ts hD dn => ?_)
    (fun v s4 h4 => Calls.spliced_nil h4) fun _ _ z => z
  obtain ⟨hp, gs, dr, tk, os⟩ := s'
  obtain ⟨len, ⟨cap, lst⟩, ⟨nd, rows⟩, old, rfl, rfl, rfl⟩ := dn
  have len : Ts.length = x1.length := by rw [len]; simp; omega
  have lst : hp.get? D = some { cls := .type "list", dict := none, data := .seq (Ts.map Value.ref).toArray cap, slots := #[] } := lst
  have at_ : ∀ (j : Nat) (T : Addr), Ts[j]? = some T → hpZ H1 D Ts (row4 x1 x2 x3 x4) T = some (.tup (row4 x1 x2 x3 x4 j)) := fun j T hT => by
    obtain ⟨_, nD, _⟩ := rows j T hT
    obtain ⟨hj, eT⟩ := List.getElem?_eq_some_iff.mp hT
    unfold hpZ
    rw [if_neg nD, if_pos (List.mem_of_getElem? hT)]
    congr 3
    subst eT
    exact nd.idxOf_getElem j hj
  have I2 : Inv X pins σ (hpZ H1 D Ts (row4 x1 x2 x3 x4)) { s1 with heap := hp, toks := tk } := by
    refine laidAll I1 (fun b u e => old b u (Heap.lt_size e) e) (fun b hb => ?_) (fun b o hb e => ?_)
    · unfold hpZ
      rw [if_neg (Nat.ne_of_lt (Nat.lt_of_lt_of_le hb hD)), if_neg]
      intro hm
      obtain ⟨j, hj⟩ := List.getElem?_of_mem hm
      exact absurd (Nat.lt_of_lt_of_le hb (rows j b hj).1) (Nat.lt_irrefl _)
    · by_cases hbD : b = D
      · subst hbD
        unfold hpZ at e
        rw [if_pos rfl] at e
        cases e
        exact ⟨by rw [List.length_map]; omega, Ts.map Value.ref, cap, Vals.refs Ts, lst⟩
      · by_cases hm : b ∈ Ts
        · obtain ⟨j, hj⟩ := List.getElem?_of_mem hm
          rw [at_ j b hj] at e
          cases e
          obtain ⟨_, _, _, u1, u2, u3, u4, g1, g2, g3, g4, eT⟩ := rows j b hj
          exact ⟨by show 4 ≤ sizeLine; omega, [u1, u2, u3, u4], .cons (got v1 g1) (.cons (got v2 g2) (.cons (got v3 g3) (.cons (got v4 g4) .nil))), ⟨_, eT, rfl, _, rfl⟩⟩
        · unfold hpZ at e
          rw [if_neg hbD, if_neg hm, I1.hok.fresh hb] at e
          cases e
  refine ⟨.ref D, _, I2, rfl, q _ D Ts (fun b o e => ?_) ?_ len at_⟩
  · have hb : b < s1.heap.objs.size := (I1.hok b o e).lt
    unfold hpZ
    rw [if_neg (Nat.ne_of_lt (Nat.lt_of_lt_of_le hb hD)), if_neg]
    · exact e
    · intro hm
      obtain ⟨j, hj⟩ := List.getElem?_of_mem hm
      exact absurd (Nat.lt_of_lt_of_le hb (rows j b hj).1) (Nat.lt_irrefl _)
  · unfold hpZ
    rw [if_pos rfl]
end
end Kin

set_option maxHeartbeats 4000000
/-! a, *b = a tuple -/
namespace Kin
open PySem PySem.Spec PyProof.Rows L2
section
variable {prog : Program} {w : World} {A : Around} {E : Value → Shared → Prop} {s : Shared}
theorem collect_tupFrom {it t : Addr} {items : Array Value} {k : Nat} {Q : List Value → Shared → Prop} (hh : A.handled = none) (hit : IsTupIter s.heap it t k) (ht : IsTup s.heap t items) (hne : t ≠ it) (hk : k ≤ items.size) (hn : items.size ≤ sizeLine)
    (hQ : ∀ h' tk, (∀ b o, b ≠ it → s.heap.get? b = some o → h'.get? b = some o) → Q (items.toList.drop k) { s with heap := h', toks := tk }) :
    wpAny (model prog w) A (collect (.ref it)) Q E s := by
  have W0 := Walks.tuple (prog := prog) (w := w) (A := A.in1) hh it t hne items
  have W : Walks prog w A.in1 it [it, t] [it] (items.size - k) (fun i v => items[k + i]? = some v) (fun i h => IsTupIter h it t (k + i) ∧ IsTup h t items) :=
    ⟨W0.sub, fun i h h' st => W0.frame (k + i) h h' st, fun i s Q E hi st hQ => W0.item (k + i) s Q E (by omega) st hQ, fun s Q E st hQ => W0.done s Q E (by rw [show k + (items.size - k) = items.size by omega] at st; exact st) hQ, fun i s Q E st hQ => W0.self (k + i) s Q E st hQ⟩
  have li : it < s.heap.objs.size := by obtain ⟨_, e, _⟩ := hit; exact Heap.lt_size e
  have lt : t < s.heap.objs.size := by obtain ⟨_, e, _⟩ := ht; exact Heap.lt_size e
  refine wpAny_collect_iter (T := "tuple_iterator") (n := items.size - k) (.inr (.inr (.inr rfl))) W.toS (fun i s st => st.1.typeIs) ⟨hit, ht⟩ (fun b hb => ?_) List.mem_cons_self (fun s' acc mv ha => ?_) (by omega)
  · rcases (show b = it ∨ b = t by simpa using hb) with rfl | rfl
    · exact li
    · exact lt
  · obtain ⟨hp, gs, dr, tk, os⟩ := s'
    obtain ⟨m1, m2, m3, m4, _⟩ := mv
    obtain rfl : gs = s.gens := m2
    obtain rfl : dr = s.drawn := m3
    obtain rfl : os = s.os := m4
    have e : acc.toList = items.toList.drop k := by
      obtain ⟨h1, h2⟩ := ha
      apply List.ext_getElem?
      intro i
      rw [List.getElem?_drop]
      by_cases hi : i < acc.size
      · have e1 : acc.toList[i]? = some acc[i] := by simp [hi]
        have e2 := h2 i acc[i] (by simp [hi])
        rw [e1, ← e2]
        simp
      · rw [List.getElem?_eq_none (by simpa using hi), List.getElem?_eq_none (by simp at h1 ⊢; omega)]
    rw [e]
    exact hQ hp tk fun b o hb q => m1 b o (by simpa using hb) q
theorem unpack_star {t : Addr} {x : Value} {items : Array Value} {f1 f2 : Value → Sem Unit} {Q : Unit → Shared → Prop} (hh : A.handled = none) (ht : IsTup s.heap t items) (hx : items[0]? = some x) (hn : items.size ≤ sizeLine)
    (h : ∀ h' tk l, s.heap.get? l = none → (∀ b o, s.heap.get? b = some o → h'.get? b = some o) → h'.get? l = some { cls := .type "list", dict := none, data := .seq (items.toList.drop 1).toArray, slots := #[] } →
      wpAny (model prog w) A (assignInOrder [f1, f2] [x, .ref l]) Q E { s with heap := h', toks := tk }) :
    wpAny (model prog w) A (unpack (.ref t) [(false, f1), (true, f2)]) Q E s := by
  have hlt : t ≠ s.heap.objs.size := by obtain ⟨o, ho, _⟩ := ht; exact Nat.ne_of_lt (Heap.lt_size ho)
  have h0 : 0 < items.size := by
    have := (Array.getElem?_eq_some_iff.mp hx).1
    exact this
  unfold unpack
  show wpAny _ _ (holding [.ref t] (unpackItems (.ref t) 2 (some 1)) >>= fun vs => assignInOrder [f1, f2] vs) _ _ _
  refine wpAny_bind (wpAny_holding ?_)
  unfold unpackItems
  refine wpAny_bind ?_
  unfold notIterableAtAll
  refine wpAny_bind (wpAny_specialOf ht.typeIs F.slot_tuple_iter.lookup ?_)
  refine wpAny_pure ?_
  simp only [Bool.false_eq_true, if_false]
  refine wpAny_bind (wpAny_holding (iter_tuple ht ?_))
  refine wpAny_bind (wpAny_holding (draw_tuple hlt 1 0 _ _ ⟨_, Heap.get?_push_size _ rfl, rfl, rfl⟩ (ht.push _) (by omega) fun h₁ hit₁ hs₁ => ?_))
  have e1 : List.take 1 (List.drop 0 items.toList) = [x] := by
    rw [List.drop_zero, List.take_one]
    have : items.toList.head? = some x := by rw [List.head?_eq_getElem?]; simpa using hx
    rw [this]
    rfl
  rw [e1]
  rw [if_neg (by show ¬ (1 < 1); omega)]
  have ht₁ : IsTup h₁ t items := (ht.push _).extBut hs₁.extBut hlt
  refine wpAny_bind (wpAny_holding (collect_tupFrom hh hit₁ ht₁ hlt (by omega) hn fun h₂ tk hk₂ => ?_))
  show wpAny _ _ (if (items.toList.drop (0 + 1)).length < 2 - 1 - 1 then _ else _) _ _ _
  rw [if_neg (by omega)]
  have k2 : ∀ b o, s.heap.get? b = some o → h₂.get? b = some o := fun b o q => by
    have hb : b ≠ s.heap.objs.size := Nat.ne_of_lt (Heap.lt_size q)
    exact hk₂ b o hb (hs₁.extBut b o hb (Heap.get?_push_of_some _ q))
  have ez : (items.toList.drop (0 + 1)).length - (2 - 1 - 1) = (items.toList.drop (0 + 1)).length := by omega
  have el : (items.toList.drop (0 + 1)).take (items.toList.drop (0 + 1)).length = items.toList.drop 1 := List.take_length
  have ed : (items.toList.drop (0 + 1)).drop (items.toList.drop (0 + 1)).length = [] := List.drop_length
  rw [ez, el, ed]
  refine wpAny_bind (wpAny_newObj_type ?_ (by show ((items.toList.drop 1).toArray).size ≤ sizeLine; simp; omega))
  refine wpAny_pure ?_
  refine h _ tk h₂.objs.size ?_ (fun b o q => Heap.get?_push_of_some _ (k2 b o q)) (Heap.get?_push_size _ rfl)
  cases q : s.heap.get? h₂.objs.size with
  | none => rfl
  | some o => exact absurd (Heap.lt_size (k2 _ _ q)) (Nat.lt_irrefl _)
end
theorem ok_there {P : Program} {w : World} {H : Hp} {h : Heap} {a : Addr} {o : HO} (x : ObjOk P w H h a o) : ∃ u, h.get? a = some u := by
  cases o with
  | dK kvs => exact (let ⟨_, _, _, _, u, _, _, e, _⟩ := x; ⟨u, e⟩)
  | dT kvs => exact (let ⟨_, _, _, _, u, _, _, e, _⟩ := x; ⟨u, e⟩)
  | lst xs => exact (let ⟨_, _, _, _, e⟩ := x; ⟨_, e⟩)
  | tup xs => exact (let ⟨_, _, _, u, e, _⟩ := x; ⟨u, e⟩)
  | set S n => exact (let ⟨u, _, _, _, e, _⟩ := x; ⟨u, e⟩)
  | ins C dx fs => exact (let ⟨_, _, _, e, _⟩ := x; ⟨_, e⟩)
  | own y => exact x
  | xd fs => exact (let ⟨_, ⟨u, _, _, e, _⟩, _⟩ := x; ⟨u, e⟩)
  | rng lo hi => exact (let ⟨_, _, _, e⟩ := x; ⟨_, e⟩)
  | frz ob u => exact ⟨_, x.1⟩
  | tbl ps => exact ⟨_, x⟩
  | met f y => exact ⟨_, x⟩
  | ext φ => exact x.2.1
section
variable {X : Cx} {pos : Pos}
/-- a, *b = a tuple -/
def gStar (K : PySem.W.Frag) (t1 t2 : TG) : TG := fun v σ H Q => ∃ a x xs, v = .ref a ∧ SqT K H a (x :: xs) ∧ ∀ l, H l = none → t1 x σ (upd H l (.lst xs)) fun σ1 H1 => t2 (.ref l) σ1 H1 Q
theorem pg_star {e1 e2 : Expr} {p : Pos} {k : Nat} {t1 t2 : TG} (hc : X.calm = true) (h1 : PG X e1 t1) (h2 : PG X e2 t2) (hs : assignEach [e1, .Starred e2 p] X.env = [(false, assign e1 X.env), (true, assign e2 X.env)] := by rfl) :
    PG X (.Tuple [e1, .Starred e2 p] k pos) (gStar X.K t1 t2) := by
  refine ⟨fun pins s σ H v u Q I r hw => ?_⟩
  obtain ⟨a, x, xs, rfl, hq, hw⟩ := hw
  cases r
  obtain ⟨its, rv, ht, hz⟩ := I.tuple hq
  cases rv with
  | cons rx rxs =>
    rename_i ux uxs
    have hl := rxs.length
    rw [assign_Tuple]
    refine wpAny_bind (wpAny_standAt ?_)
    rw [hs]
    refine unpack_star (x := ux) (I.ok.hd hc) ht (by simp) (by simp at hz ⊢; omega) fun h' tk l nl kp el => ?_
    have hn : H l = none := by
      cases q : H l with
      | none => rfl
      | some o =>
        obtain ⟨u, e⟩ := ok_there (I.hok l o q)
        rw [nl] at e
        cases e
    have I1 : Inv X pins σ (upd H l (.lst xs)) { s with heap := h', toks := tk } :=
      I.laidN (t' := tk) kp nl hn ⟨by simp at hz ⊢; omega, uxs, _, rxs, by simpa using el⟩
    refine assignInOrder_cons (thn (h1.run pins _ σ _ x ux _ I1 rx (hw l hn)) fun _ s1 ⟨σ1, H1, I2, q1⟩ => ?_)
    refine assignInOrder_cons (thn (h2.run pins s1 σ1 H1 (.ref l) (.ref l) _ I2 rfl q1) fun _ s2 ⟨σ2, H2, I3, q2⟩ => ?_)
    exact assignInOrder_nil ⟨σ2, H2, I3, q2⟩
end
end Kin

set_option maxHeartbeats 2000000
/-! ### things as data, tracked (L: lists too) -/
namespace Kin
open PySem PySem.Spec PyProof.Rows L2
mutual
inductive Td (L : Bool) (H : Hp) : V → PyData → Prop
  | non : Td L H .non .none
  | bl (b : Bool) : Td L H (.bl b) (.bool b)
  | int (i : Int) : Td L H (.int i) (.int i)
  | str {z : Str} (h : z.length ≤ 1000) : Td L H (.str z) (.str z)
  | lst {a : Addr} {xs : List V} {ds : List PyData} (l : L = true) (e : H a = some (.lst xs)) (n : xs.length ≤ 1000) (r : TdAll L H xs ds) : Td L H (.ref a) (.list ds)
  | tup {a : Addr} {xs : List V} {ds : List PyData} (e : H a = some (.tup xs)) (n : xs.length ≤ 1000) (r : TdAll L H xs ds) : Td L H (.ref a) (.tuple ds)
inductive TdAll (L : Bool) (H : Hp) : List V → List PyData → Prop
  | nil : TdAll L H [] []
  | cons {v : V} {vs : List V} {d : PyData} {ds : List PyData} (h : Td L H v d) (r : TdAll L H vs ds) : TdAll L H (v :: vs) (d :: ds)
end
section
variable {L M : Bool} {H H' : Hp} {K : PySem.W.Frag}
mutual
theorem Td.move (k : L = true → M = true) (kt : ∀ b xs, H b = some (.tup xs) → H' b = some (.tup xs)) (kl : L = true → ∀ b xs, H b = some (.lst xs) → H' b = some (.lst xs)) : ∀ (d : PyData) (v : V), Td L H v d → Td M H' v d
  | .none, _, h => by cases h; exact .non
  | .bool b, _, h => by cases h; exact .bl b
  | .int i, _, h => by cases h; exact .int i
  | .str z, _, h => by
    cases h with
    | str n => exact .str n
  | .list ds, _, h => by
    cases h with
    | lst l e n r => exact .lst (k l) (kl l _ _ e) n (Td.moveAll k kt kl ds _ r)
  | .tuple ds, _, h => by
    cases h with
    | tup e n r => exact .tup (kt _ _ e) n (Td.moveAll k kt kl ds _ r)
  | .dict _, _, h => by cases h
theorem Td.moveAll (k : L = true → M = true) (kt : ∀ b xs, H b = some (.tup xs) → H' b = some (.tup xs)) (kl : L = true → ∀ b xs, H b = some (.lst xs) → H' b = some (.lst xs)) : ∀ (ds : List PyData) (vs : List V), TdAll L H vs ds → TdAll M H' vs ds
  | [], _, h => by cases h; exact .nil
  | d :: ds, _, h => by
    cases h with
    | cons h r => exact .cons (Td.move k kt kl d _ h) (Td.moveAll k kt kl ds _ r)
end
mutual
theorem Td.dp : ∀ (d : PyData) (v : V), Td L H v d → Dp K H v d
  | .none, _, h => by cases h; exact .non
  | .bool b, _, h => by cases h; exact .bl b
  | .int i, _, h => by cases h; exact .int i
  | .str z, _, h => by
    cases h with
    | str n => exact .str z
  | .list ds, _, h => by
    cases h with
    | lst l e n r => exact .lst (.inl (.inl e)) (Td.dpAll ds _ r)
  | .tuple ds, _, h => by
    cases h with
    | tup e n r => exact .tup (.inl (.inl e)) (Td.dpAll ds _ r)
  | .dict _, _, h => by cases h
theorem Td.dpAll : ∀ (ds : List PyData) (vs : List V), TdAll L H vs ds → DpAll K H vs ds
  | [], _, h => by cases h; exact .nil
  | d :: ds, _, h => by
    cases h with
    | cons h r => exact .cons (Td.dp d _ h) (Td.dpAll ds _ r)
end
theorem Td.mono {v : V} {d : PyData} (t : Td L H v d) (s : Same H H') : Td L H' v d := Td.move (fun l => l) (fun b _ e => s b _ e) (fun _ b _ e => s b _ e) d v t
theorem TdAll.mono {v : List V} {d : List PyData} (t : TdAll L H v d) (s : Same H H') : TdAll L H' v d := Td.moveAll (fun l => l) (fun b _ e => s b _ e) (fun _ b _ e => s b _ e) d v t
theorem Td.lists {v : V} {d : PyData} (t : Td false H v d) : Td true H v d := Td.move (fun _ => rfl) (fun b _ e => e) (fun _ b _ e => e) d v t
theorem TdAll.length : ∀ {ds : List PyData} {vs : List V}, TdAll L H vs ds → vs.length = ds.length
  | [], _, h => by cases h; rfl
  | d :: ds, _, h => by
    cases h with
    | cons h r => rw [List.length_cons, List.length_cons, TdAll.length r]
theorem TdAll.get : ∀ {ds : List PyData} {vs : List V}, TdAll L H vs ds → ∀ {i : Nat} {v : V}, vs[i]? = some v → ∃ d, ds[i]? = some d ∧ Td L H v d
  | [], _, h, i, v, e => by cases h; cases e
  | d :: ds, _, h, i, v, e => by
    cases h with
    | cons h r =>
      cases i with
      | zero =>
        cases e
        exact ⟨d, rfl, h⟩
      | succ i => exact TdAll.get r (i := i) e
def isStrD : PyData → Bool
  | .str _ => true
  | _ => false
def isTupD : PyData → Bool
  | .tuple _ => true
  | _ => false
def isBlD : PyData → Bool
  | .bool _ => true
  | _ => false
def isIntD : PyData → Bool
  | .int _ => true
  | .bool _ => true
  | _ => false
structure TyD (K : PySem.W.Frag) (H : Hp) (v : V) (d : PyData) : Prop where
  ex : ∃ n : String, TyX K H v (.type n) ∧ kitB n "str" = some (isStrD d) ∧ kitB n "tuple" = some (isTupD d) ∧ kitB n "int" = some (isIntD d) ∧ kitB n "bool" = some (isBlD d)
theorem Td.ty {v : V} {d : PyData} (t : Td L H v d) : TyD K H v d := by
  cases t with
  | non => exact ⟨"NoneType", .base .non, by decide +kernel, by decide +kernel, by decide +kernel, by decide +kernel⟩
  | bl b => exact ⟨"bool", .base (.bl b), show kitB "bool" "str" = some false by decide +kernel, show kitB "bool" "tuple" = some false by decide +kernel, show kitB "bool" "int" = some true by decide +kernel, show kitB "bool" "bool" = some true by decide +kernel⟩
  | int i => exact ⟨"int", .base (.int i), show kitB "int" "str" = some false by decide +kernel, show kitB "int" "tuple" = some false by decide +kernel, show kitB "int" "int" = some true by decide +kernel, show kitB "int" "bool" = some false by decide +kernel⟩
  | str h => exact ⟨"str", .base (.str _), show kitB "str" "str" = some true by decide +kernel, show kitB "str" "tuple" = some false by decide +kernel, show kitB "str" "int" = some false by decide +kernel, show kitB "str" "bool" = some false by decide +kernel⟩
  | lst l e n r => exact ⟨"list", .base (.lst e), show kitB "list" "str" = some false by decide +kernel, show kitB "list" "tuple" = some false by decide +kernel, show kitB "list" "int" = some false by decide +kernel, show kitB "list" "bool" = some false by decide +kernel⟩
  | tup e n r => exact ⟨"tuple", .base (.tup e), show kitB "tuple" "str" = some false by decide +kernel, show kitB "tuple" "tuple" = some true by decide +kernel, show kitB "tuple" "int" = some false by decide +kernel, show kitB "tuple" "bool" = some false by decide +kernel⟩
end
theorem b_bool : bootBuiltins "bool" = some (.type "bool") := by decide +kernel
/-! ### what is never come to -/
section
variable {X : Cx}
theorem ps_no {st : Stmt} : PS X st (fun _ _ _ => False) := ⟨fun _ _ _ _ _ _ h => h.elim⟩
theorem pss_no {st : List Stmt} : PSs X st (fun _ _ _ => False) := ⟨fun _ _ _ _ _ _ h => h.elim⟩
theorem pt_no {e : Expr} : PT X e (fun _ _ _ => False) := ⟨fun _ _ _ _ _ _ h => h.elim⟩
theorem pe_no {e : Expr} : PE X e (fun _ _ _ => False) := ⟨fun _ _ _ _ _ _ h => h.elim⟩
end
theorem same_set {H H' : Hp} {a : Addr} {o : HO} (s : Same H H') (n : H a = none) : Same H (upd H' a o) := fun b x e => by
  rw [upd_ne (ne_of_none e n)]
  exact s b x e
theorem ixNn {n j : Nat} (hj : j < n) : ixN n (j : Int) = some j := by
  unfold ixN
  rw [if_pos (by omega), if_pos (by omega)]
  simp
theorem getD_some {α : Type} {l : List α} {k : Nat} {d : α} (h : k < l.length) : l[k]? = some (l.getD k d) := by
  rw [List.getD_eq_getElem?_getD, List.getElem?_eq_getElem h]
  rfl
structure ExT (K : PySem.W.Frag) (mg : Str → Option Value) (n : Str) (C : Addr) : Prop where
  g : mg n = some (.ref C)
  x : PySem.W.excIn K C [.type "ValueError", .type "Exception", .type "BaseException", .type "object"] "ValueError.__new__" = true
  k : PySem.W.keepIn K (.ref C) = true
  b : PySem.W.subIn K (.ref C) (.type "BaseException") = some true
  t : PySem.W.typeIn K (.ref C) = some (.type "type")
structure Df (K : PySem.W.Frag) (mg : Str → Option Value) (x : Str) (st : Stmt) (ps : List Str) (a : Addr) (fd : FuncData) : Prop where
  F : Fun K x x st a fd
  b : Binds K fd ps []
  g : mg x = some (.ref a)
end Kin

set_option maxHeartbeats 4000000
namespace Kin
open PySem PySem.Spec PyProof.Rows L2
theorem df_mk {K : PySem.W.Frag} {mg : Str → Option Value} {h : Heap} {x : Str} {st : Stmt} {ps : List Str} {f : Addr} {oc : Value} {od an : Option Addr} {osl : Array (Option Value)} {kV doc pm cdv ct : Value} (X : K.In h) (G : h.Ns mainGlobals mg)
    (a : PySem.W.nsIn K mainGlobals x = some (some (.ref f))) (l : K.lookup f = some ⟨oc, od, .func (PySem.W.fnOf x x (defArgs st) (defBody st) (defScope st) .none kV doc pm an cdv ct), osl⟩) (c : PySem.W.codeIn K cdv x = true) (k : PySem.W.keepIn K (.ref f) = true)
    (b : ∀ (kV doc pm : Value) (an : Option Addr) (cdv ct : Value) (us : List Value), us.length = ps.length → bindArgs (PySem.W.fnOf x x (defArgs st) (defBody st) (defScope st) .none kV doc pm an cdv ct) ⟨us, []⟩ = pure (ps.zip us)) :
    Df K mg x st ps f (PySem.W.fnOf x x (defArgs st) (defBody st) (defScope st) .none kV doc pm an cdv ct) :=
  ⟨fun_mk l c k, (fun_mk (st := st) l c k).binds b, PySem.W.mg_of X G a⟩
theorem clsIf {K : PySem.W.Frag} {C : Addr} (i : PySem.W.isClsIn K C = true) (t : PySem.W.typeIn K (.ref C) = some (.type "type")) : ((PySem.W.clsIn K C).isSome && PySem.W.typeIn K (.ref C) == some (.type "type")) = true := by
  have i' : (PySem.W.clsIn K C).isSome = true := i
  rw [i', t] <;> rfl
theorem kit_self {K : PySem.W.Frag} {D : Addr} : PySem.W.kitOne K (.ref D) (.ref D) = some true := by
  unfold PySem.W.kitOne
  rw [if_pos (beq_self_eq_true _)]
theorem kit_no {K : PySem.W.Frag} {C D : Addr} (i : PySem.W.isClsIn K C = true) (t : PySem.W.typeIn K (.ref C) = some (.type "type")) (s0 : PySem.W.subIn K (.ref D) (.ref D) = some true) (s : PySem.W.subIn K (.ref D) (.ref C) = some false) : PySem.W.kitOne K (.ref D) (.ref C) = some false := by
  have ne : ¬ ((Value.ref D == Value.ref C) = true) := fun z => by
    cases eq_of_beq z
    rw [s0] at s
    cases s
  unfold PySem.W.kitOne
  rw [if_neg ne]
  show (if ((PySem.W.clsIn K C).isSome && PySem.W.typeIn K (.ref C) == some (.type "type")) = true then PySem.W.subIn K (.ref D) (.ref C) else none) = _
  rw [if_pos (clsIf i t)]
  exact s
theorem kit_type {K : PySem.W.Frag} {D : Addr} {T : String} (m : PySem.W.kitMeta T = true) (s : PySem.W.subIn K (.ref D) (.type T) = some true) : PySem.W.kitOne K (.ref D) (.type T) = some true := by
  have ne : ¬ ((Value.ref D == Value.type T) = true) := fun z => by cases eq_of_beq z
  unfold PySem.W.kitOne
  rw [if_neg ne]
  show (if PySem.W.kitMeta T = true then PySem.W.subIn K (.ref D) (.type T) else none) = _
  rw [if_pos m]
  exact s
theorem exm_mk {K : PySem.W.Frag} {C D : Addr} (h1 : PySem.W.subIn K (.ref C) (.type "BaseException") = some true) (i : PySem.W.isClsIn K C = true) (t : PySem.W.typeIn K (.ref C) = some (.type "type")) (s : PySem.W.subIn K (.ref D) (.ref C) = some true) : PySem.W.exmOne K (.ref D) (.ref C) = some true := by
  have e1 : (PySem.W.subIn K (.ref C) (.type "BaseException") == some true) = true := by rw [h1] <;> rfl
  show (if (PySem.W.subIn K (.ref C) (.type "BaseException") == some true) = true then (if ((PySem.W.clsIn K C).isSome && PySem.W.typeIn K (.ref C) == some (.type "type")) = true then PySem.W.subIn K (.ref D) (.ref C) else none) else none) = some true
  rw [if_pos e1, if_pos (clsIf i t)]
  exact s
end Kin

set_option maxHeartbeats 4000000
/-! methods that may raise in a try's body, methods by keywords, making in a try's body, len of an own object -/
namespace Kin
open PySem PySem.Spec PyProof.Rows L2
section
variable {X : Cx} {CX : CXT} {k : Nat} {f C : Addr} {fd : FuncData} {ps ks : List Str} {sp : Sp} {dvs : List V} {ds : List Value} {E : L2.St → XK} {x m : Str} {p pos apos : Pos} {e o : Expr} {es : List Expr} {kws : List Keyword} {ta : TE} {t tk : TA}
theorem run_fnA {pins : List (Addr × Obj)} {σ : L2.St} {H : Hp} {s : Shared} {Q : VK} {us : List Value} {vs : List V} (F : FnOk X.prog X.w X.K X.mg X.base CX k f fd ps sp) (hr : Room k X.A) (hb : Binds X.K fd ps ds) (hd : Vals dvs ds) (hx : PassesAt CX X σ (E σ))
    (I : Inv X pins σ H s) (r : Vals vs us) (h : sp (vs ++ dvs) H Q (E σ)) : wpAny (model X.prog X.w) X.A (call (.ref f) us) (EP X pins σ Q) X.xe s := by
  have r2 : Vals (vs ++ dvs) (us ++ ds) := r.append hd
  have hl : (us ++ ds).length = ps.length := by rw [← r2.length]; exact F.len _ _ _ _ h
  refine wpAny_call (codeAny_mono (F.run X.A X.stack s H ⟨us, []⟩ (us ++ ds) (vs ++ dvs) Q (E σ) hr I.env0 (hb s us I.kIn hl) r2 h) fun r s' hq => ?_)
  cases r with
  | error e => exact hx pins H s e s' I hq
  | ok fl =>
    cases fl with
    | ret u => exact I.after hq
    | next => exact False.elim hq
    | brk => exact False.elim hq
    | cont => exact False.elim hq
def tMethX (C : Addr) (m : Str) (sp : Sp) (dvs : List V) (E : L2.St → XK) (ta : TE) (t : TA) : TE := fun σ H Q => ta σ H fun x H1 => ∃ a dx fs, x = .ref a ∧ H1 a = some (.ins C dx fs) ∧ fs.lookup m = none ∧ t σ H1 fun vs H2 => sp (x :: (vs ++ dvs)) H2 Q (E σ)
/-- o.m(e, ..) that may raise -/
theorem pe_methX {pl : Sem Bool} (he : PE X o ta) (c : Cls X.K C) (hm : Meth X.K C m f) (F : FnOk X.prog X.w X.K X.mg X.base CX k f fd ps sp) (hr : Room k X.A) (hb : Binds X.K fd ps ds) (hd : Vals dvs ds) (hx : ∀ σ, PassesAt CX X σ (E σ)) (ha : PA X (e :: es) t)
    (hst : starEach (e :: es) X.env = (false, eval e X.env) :: starEach es X.env := by rfl) (hpl : (backTo pos (starEach es X.env)).any (·.1) = false := by rfl)
    (ht : eval (.Call (.Attribute o m apos) (e :: es) [] pos) X.env = (do
      let ov ← eval o X.env
      standAt apos.atName
      let (f, first) ← holding [ov] (getMethod ov m pl)
      callWith pos f first (backTo pos (starEach (e :: es) X.env)) (backToKw pos (keywordEach [] X.env))) := by rfl) :
    PE X (.Call (.Attribute o m apos) (e :: es) [] pos) (tMethX C m sp dvs E ta t) := by
  refine ⟨fun pins s σ H Q I h => ?_⟩
  refine PySem.W.methodCall_KW (pl := pl) (thn (he.run pins s σ H _ I h) fun u s1 ⟨x, H1, I1, rx, a, dx, fs, ex, ea, l, q⟩ => ?_) ht
  subst ex
  obtain rfl : u = Value.ref a := rx
  refine getmeth_ok I1 ea c hm l ?_
  refine PySem.W.callWith_K (first := [.ref a]) (h₀ := X.base) I.ok.mod.kin hm.kp (thn (ha.run pos pins s1 σ H1 _ I1 q) fun us s2 ⟨vs, H2, I2, r, q2⟩ => ⟨I2.kIn, ?_⟩) hst hpl
  exact run_fnA (us := .ref a :: us) (vs := .ref a :: vs) F hr hb hd (hx σ) I2 (.cons rfl r) q2
/-- o.m() that may raise -/
theorem pe_methX0 {pl : Sem Bool} (he : PE X o ta) (c : Cls X.K C) (hm : Meth X.K C m f) (F : FnOk X.prog X.w X.K X.mg X.base CX k f fd ps sp) (hr : Room k X.A) (hb : Binds X.K fd ps ds) (hd : Vals dvs ds) (hx : ∀ σ, PassesAt CX X σ (E σ))
    (ht : eval (.Call (.Attribute o m apos) [] [] pos) X.env = (do
      let ov ← eval o X.env
      standAt apos.atName
      let (f, first) ← holding [ov] (getMethod ov m pl)
      callWith pos f first (backTo pos (starEach [] X.env)) (backToKw pos (keywordEach [] X.env))) := by rfl) :
    PE X (.Call (.Attribute o m apos) [] [] pos) (tMethX C m sp dvs E ta tNil) := by
  refine ⟨fun pins s σ H Q I h => ?_⟩
  refine PySem.W.methodCall_KW (pl := pl) (thn (he.run pins s σ H _ I h) fun u s1 ⟨x, H1, I1, rx, a, dx, fs, ex, ea, l, q⟩ => ?_) ht
  subst ex
  obtain rfl : u = Value.ref a := rx
  refine getmeth_ok I1 ea c hm l ?_
  exact PySem.W.callWith_K0 (first := [.ref a]) I1.kIn hm.kp (run_fnA (us := [.ref a]) (vs := [.ref a]) F hr hb hd (hx σ) I1 (.cons rfl .nil) q)
variable {g : List Value → List Value → List Value} {gV : List V → List V → List V} {EK : XK} {n : Nat}
theorem run_fnN {pins : List (Addr × Obj)} {σ : L2.St} {H : Hp} {s : Shared} {Q : VK} {us ws : List Value} {vs zs : List V} (F : FnOk X.prog X.w X.K X.mg X.base CX k f fd ps sp) (hr : Room k X.A) (hb : KBn X.K fd ps n ks g gV) (hx : Passes CX X EK)
    (I : Inv X pins σ H s) (r : Vals vs us) (rz : Vals zs ws) (hn : vs.length = n) (hk : zs.length = ks.length) (h : sp (gV vs zs) H Q EK) : wpAny (model X.prog X.w) X.A (call (.ref f) us (ks.zip ws)) (EP X pins σ Q) X.xe s := by
  have r2 := hb.rel r rz
  refine wpAny_call (codeAny_mono (F.run X.A X.stack s H ⟨us, ks.zip ws⟩ (g us ws) (gV vs zs) Q EK hr I.env0 (hb.to s us ws I.kIn (by rw [← r.length]; exact hn) (by rw [← rz.length]; exact hk)) r2 h) fun r s' hq => ?_)
  cases r with
  | error e => exact hx pins σ H s e s' I hq
  | ok fl =>
    cases fl with
    | ret u => exact I.after hq
    | next => exact False.elim hq
    | brk => exact False.elim hq
    | cont => exact False.elim hq
def tMethK (C : Addr) (m : Str) (n : Nat) (ks : List Str) (sp : Sp) (gV : List V → List V → List V) (E : XK) (ta : TE) (t tk : TA) : TE := fun σ H Q => ta σ H fun x H1 => ∃ a dx fs, x = .ref a ∧ H1 a = some (.ins C dx fs) ∧ fs.lookup m = none ∧ t σ H1 fun vs H2 => tk σ H2 fun zs H3 => vs.length = n ∧ zs.length = ks.length ∧ sp (gV (x :: vs) zs) H3 Q E
/-- o.m(e, .., k = v, ..) -/
theorem pe_methK {pl : Sem Bool} (he : PE X o ta) (c : Cls X.K C) (hm : Meth X.K C m f) (F : FnOk X.prog X.w X.K X.mg X.base CX k f fd ps sp) (hr : Room k X.A) (hb : KBn X.K fd ps (n + 1) ks g gV) (hx : Passes CX X EK) (ha : PA X (e :: es) t) (hkw : PK X kws tk)
    (hall : (backToKw pos (keywordEach kws X.env)).all (·.1.isSome) = true := by rfl) (hks : (backToKw pos (keywordEach kws X.env)).filterMap (·.1) = ks := by rfl)
    (hst : starEach (e :: es) X.env = (false, eval e X.env) :: starEach es X.env := by rfl)
    (hpl : ((backTo pos (starEach (e :: es) X.env)).any (·.1) || (backToKw pos (keywordEach kws X.env)).any (·.1.isNone)) = false := by rfl)
    (ht : eval (.Call (.Attribute o m apos) (e :: es) kws pos) X.env = (do
      let ov ← eval o X.env
      standAt apos.atName
      let (f, first) ← holding [ov] (getMethod ov m pl)
      callWith pos f first (backTo pos (starEach (e :: es) X.env)) (backToKw pos (keywordEach kws X.env))) := by rfl) :
    PE X (.Call (.Attribute o m apos) (e :: es) kws pos) (tMethK C m n ks sp gV EK ta t tk) := by
  refine ⟨fun pins s σ H Q I h => ?_⟩
  refine PySem.W.methodCall_KW (pl := pl) (thn (he.run pins s σ H _ I h) fun u s1 ⟨x, H1, I1, rx, a, dx, fs, ex, ea, l, q⟩ => ?_) ht
  subst ex
  obtain rfl : u = Value.ref a := rx
  refine getmeth_ok I1 ea c hm l ?_
  refine PySem.W.callWith_KW (first := [.ref a]) (h₀ := X.base) I.ok.mod.kin hm.kp hall (thn (ha.run pos pins s1 σ H1 _ I1 q) fun us s2 ⟨vs, H2, I2, r, q2⟩ => ?_) hpl hst
  refine thn (hkw.run pos pins s2 σ H2 _ I2 q2) fun ws s3 ⟨zs, H3, I3, rz, l1, l2, q3⟩ => ⟨I3.kIn, ?_⟩
  rw [hks]
  exact run_fnN (us := .ref a :: us) (vs := .ref a :: vs) F hr hb hx I3 (.cons rfl r) rz (by rw [List.length_cons, l1]) l2 q3
theorem run_makeA {pins : List (Addr × Obj)} {σ : L2.St} {H : Hp} {s : Shared} {Q : VK} {us : List Value} {vs : List V} (M : L2.Mk X.K C f) (F : FnOk X.prog X.w X.K X.mg X.base CX k f fd ps sp) (hr : Room (k + 1) X.A) (hb : Binds X.K fd ps ds) (hd : Vals dvs ds)
    (hx : PassesAt CX X σ (E σ)) (I : Inv X pins σ H s) (r : Vals vs us)
    (h : ∀ x dx, H x = none → H dx = none → dx ≠ x → sp (.ref x :: (vs ++ dvs)) (upd (upd H dx (.own x)) x (.ins C dx [])) (fun v H2 => v = .non ∧ Q (.ref x) H2) (E σ)) :
    wpAny (model X.prog X.w) X.A (call (.ref C) us) (EP X pins σ Q) X.xe s := by
  have hq := h (s.heap.objs.size + 1) s.heap.objs.size (I.hok.fresh (Nat.le_succ _)) (I.hok.fresh (Nat.le_refl _)) (Nat.ne_of_lt (Nat.lt_succ_self _))
  have I2 := Inv.made (C := C) I
  have r2 : Vals (V.ref (s.heap.objs.size + 1) :: (vs ++ dvs)) (Value.ref (s.heap.objs.size + 1) :: (us ++ ds)) := .cons rfl (r.append hd)
  have hl : (Value.ref (s.heap.objs.size + 1) :: us ++ ds).length = ps.length := by
    have e := r2.length
    rw [F.len _ _ _ _ hq] at e
    exact e.symm
  refine wpAny_call (make_map (f := f) I.kIn M.makes M.init (beq_iff_eq.mp M.fn) (codeAny_mono (F.run _ X.stack _ _ ⟨Value.ref (s.heap.objs.size + 1) :: us, []⟩ (Value.ref (s.heap.objs.size + 1) :: (us ++ ds)) _ _ (E σ) (hr.make C us [])
    (I2.env0.make C us []) (hb _ (Value.ref (s.heap.objs.size + 1) :: us) I2.kIn hl) r2 hq) fun r s' hq' => ?_))
  cases r with
  | error e => exact hx pins _ _ e s' I2 hq'
  | ok fl =>
    cases fl with
    | ret u =>
      obtain ⟨v, H', I3, rv, ev, q3⟩ := I2.after hq'
      subst ev
      exact ⟨rv, ⟨V.ref (s.heap.objs.size + 1), H', I3, rfl, q3⟩⟩
    | next => exact False.elim hq'
    | brk => exact False.elim hq'
    | cont => exact False.elim hq'
def tMakeX (C : Addr) (sp : Sp) (dvs : List V) (E : L2.St → XK) (t : TA) : TE := fun σ H Q => t σ H fun vs H1 => ∀ x dx, H1 x = none → H1 dx = none → dx ≠ x → sp (.ref x :: (vs ++ dvs)) (upd (upd H1 dx (.own x)) x (.ins C dx [])) (fun v H2 => v = .non ∧ Q (.ref x) H2) (E σ)
theorem pe_makeX (M : L2.Mk X.K C f) (F : FnOk X.prog X.w X.K X.mg X.base CX k f fd ps sp) (hr : Room (k + 1) X.A) (hg : Gl X x) (hm : X.mg x = some (.ref C)) (hb : Binds X.K fd ps ds) (hd : Vals dvs ds) (hx : ∀ σ, PassesAt CX X σ (E σ))
    (ha : PA X (e :: es) t) (hdb : (x == ("__debug__" : Str)) = false := by decide) (he : starEach (e :: es) X.env = (false, eval e X.env) :: starEach es X.env := by rfl) (hpl : (backTo pos (starEach es X.env)).any (·.1) = false := by rfl) :
    PE X (.Call (.Name x p) (e :: es) [] pos) (tMakeX C sp dvs E t) := by
  refine ⟨fun pins s σ H Q I h => ?_⟩
  refine wpAny_Call_Name_kw (ld_glob I hg hm ?_ hdb)
  refine PySem.W.callWith_K (h₀ := X.base) I.ok.mod.kin M.kp (thn (ha.run pos pins s σ H _ I h) fun us s1 ⟨vs, H1, I1, r, q⟩ => ⟨I1.kIn, ?_⟩) he hpl
  exact run_makeA M F hr hb hd (hx σ) I1 r q
/-- len(o), o of an own class with __len__ -/
def rLenOwn (C : Addr) (sp : Sp) : List V → Hp → VK → Prop := fun xs H Q => ∃ a dx fs, xs = [.ref a] ∧ H a = some (.ins C dx fs) ∧ sp [.ref a] H (fun v H2 => ∃ n : Int, v = .int n ∧ 0 ≤ n ∧ n < 2 ^ 63 ∧ Q (.int n) H2) E0
theorem call_len_own (F : FnOk X.prog X.w X.K X.mg X.base CX0 k f fd ps sp) (hr : Room (k + 1) X.A) (hs : PySem.W.findIn X.K (.ref C) "__len__" = some (some (.ref f))) (hf : PySem.W.isFn X.K (.ref f) = true) (hb : Binds X.K fd ps []) : CallR X (.builtin "len") (rLenOwn C sp) := by
  intro pins s σ H xs us Q I r h
  obtain ⟨a, dx, fs, rfl, ea, hsp⟩ := h
  obtain ⟨u, rfl, rx⟩ := vals1 r
  obtain rfl : u = .ref a := rx
  obtain ⟨mA, J, _⟩ := ins_get I.hok ea
  obtain ⟨od, J, _⟩ := J.look
  have hl := F.len _ _ _ _ hsp
  refine Calls.call_function_entry kind_len plain_len entry_len (args_len1 _) ?_
  unfold Builtin.«len»
  refine wpAny_bind (m := oneArg "len" _) (wpAny_pure ?_)
  refine wpAny_bind (m := callSpecial? (.ref a) (Str.ofString "__len__")) (PySem.W.special_fn I.kIn J hs (beq_iff_eq.mp hf) ?_)
  refine wpAny_call (codeAny_mono (F.run X.A.in1 X.stack s H ⟨[.ref a], []⟩ [.ref a] [.ref a] _ E0 hr.in1 I.env0.in1 (by
    have := hb s [.ref a] I.kIn (by simpa using hl)
    simpa using this) (.cons rfl .nil) hsp) fun r s' hq => ?_)
  cases r with
  | error e => exact False.elim hq
  | ok fl =>
    cases fl with
    | ret w =>
      obtain ⟨z, H', I', rz, n, ez, h0, h1, q⟩ := I.after hq
      subst ez
      obtain ⟨t, rfl⟩ := rz
      refine wpAny_bind (wpAny_holding (wpAny_pure ?_))
      refine wpAny_bind (wpAny_letGo ?_)
      show wpAny _ _ (if n < 0 then _ else _) _ _ _
      rw [if_neg (by omega)]
      show wpAny _ _ (if n ≥ 2 ^ 63 then _ else _) _ _ _
      rw [if_neg (by omega)]
      exact wpAny_bind (wpAny_mkInt (wpAny_pure ⟨_, rfl, ⟨.int n, H', I'.tok _, ⟨_, rfl⟩, q⟩⟩))
    | next => exact False.elim hq
    | brk => exact False.elim hq
    | cont => exact False.elim hq
end
end Kin

set_option maxHeartbeats 4000000
namespace K17
open PySem PySem.Spec PyProof.Rows L2 Kin
def top (i : Nat) : Stmt := PySem.Challenge.pw_kincalls_k17_whole_twins_and_undone.main.body.getD i (.Pass ⟨0, 0, 0, 0⟩)
structure TxtB (K : PySem.W.Frag) (mg : Str → Option Value) where
  n_ValueError : mg "ValueError" = none
  n_all : mg "all" = none
  n_bool : mg "bool" = none
  n_dict : mg "dict" = none
  n_int : mg "int" = none
  n_isinstance : mg "isinstance" = none
  n_len : mg "len" = none
  n_list : mg "list" = none
  n_range : mg "range" = none
  n_str : mg "str" = none
  n_tuple : mg "tuple" = none
  tk0 : Tok
  g_LETTERS : mg "LETTERS" = some (.str "abcdefghijklmnopqrstuvwxyz" tk0)
  aSEXES : Addr
  g_SEXES : mg "SEXES" = some (.ref aSEXES)
  q_SEXES : ∀ H, SqT K H aSEXES [.str "he", .str "she"]
  tk2 : Tok
  g_MOST_LETTERS : mg "MOST_LETTERS" = some (.int 6 tk2)
  tk3 : Tok
  g_MOST_PERSONS : mg "MOST_PERSONS" = some (.int 40 tk3)
  tk4 : Tok
  g_STEPS : mg "STEPS" = some (.str "fmsd" tk4)
  tk5 : Tok
  g_MOST_STANDS : mg "MOST_STANDS" = some (.int 8 tk5)
  tk6 : Tok
  g_MOST_WORD : mg "MOST_WORD" = some (.int 8 tk6)
  aN : Addr
  c_NoName : ExT K mg "NoName" aN
  aX : Addr
  c_NoSex : ExT K mg "NoSex" aX
  aS : Addr
  c_NoSpeech : ExT K mg "NoSpeech" aS
  aPa : Addr
  c_NoParent : ExT K mg "NoParent" aPa
  aTk : Addr
  c_Taken : ExT K mg "Taken" aTk
  aFu : Addr
  c_Full : ExT K mg "Full" aFu
  aD : Addr
  c_NoDeed : ExT K mg "NoDeed" aD
end K17

set_option maxHeartbeats 4000000
/-! ### written things, by their data -/
namespace Kin
open PySem PySem.Spec PyProof.Rows L2
structure Vw (H0 : Hp) (vw : Hp → Hp) : Prop where
  mono : ∀ H H', Same H0 H → Same H H' → Same (vw H) (vw H')
  new : ∀ H t o, Same H0 H → H t = none → vw (upd H t o) t = some o
  sub : ∀ H b o, vw H b = some o → H b = some o
def hide (l : Addr) (H : Hp) : Hp := fun b => if b = l then none else H b
theorem vw_id {H0 : Hp} : Vw H0 id := ⟨fun _ _ _ s => s, fun _ _ _ _ _ => upd_same, fun _ _ _ e => e⟩
theorem vw_hide {H0 : Hp} {l : Addr} {o : HO} (h : H0 l = some o) : Vw H0 (hide l) := by
  refine ⟨fun H H' _ s b x e => ?_, fun H t x s n => ?_, fun H b x e => ?_⟩
  · unfold hide at e ⊢
    by_cases c : b = l
    · rw [if_pos c] at e; cases e
    · rw [if_neg c] at e ⊢
      exact s b x e
  · unfold hide
    rw [if_neg (fun z => by rw [z, s _ _ h] at n; cases n)]
    exact upd_same
  · unfold hide at e
    by_cases c : b = l
    · rw [if_pos c] at e; cases e
    · rw [if_neg c] at e
      exact e
/-- te makes a thing whose data is d, all else kept -/
def Mk (vw : Hp → Hp) (H0 : Hp) (te : TE) (σ : L2.St) (d : PyData) : Prop := ∀ H Q, Same H0 H → (∀ H' x, Same H H' → Td true (vw H') x d → Q x H') → te σ H Q
def MkA (vw : Hp → Hp) (H0 : Hp) (ta : TA) (σ : L2.St) (ds : List PyData) : Prop := ∀ H Q, Same H0 H → (∀ H' xs, Same H H' → TdAll true (vw H') xs ds → Q xs H') → ta σ H Q
section
variable {K : PySem.W.Frag} {vw : Hp → Hp} {H0 : Hp} {σ : L2.St} {te tf : TE} {ta : TA} {d e : PyData} {ds es : List PyData}
theorem mk_c {v : V} (h : ∀ H, Td true H v d) : Mk vw H0 (tC v) σ d := fun H Q s k => k H v (Same.refl H) (h _)
theorem mk_non : Mk vw H0 (tC .non) σ .none := mk_c fun _ => .non
theorem mk_bl {b : Bool} : Mk vw H0 (tC (.bl b)) σ (.bool b) := mk_c fun _ => .bl b
theorem mk_int {i : Int} : Mk vw H0 (tC (.int i)) σ (.int i) := mk_c fun _ => .int i
theorem mk_str {z : Str} (h : z.length ≤ 1000) : Mk vw H0 (tC (.str z)) σ (.str z) := mk_c fun _ => .str h
theorem mk_neg {i : Int} : Mk vw H0 (tUn (rU fun i => .int (-i)) (tC (.int i))) σ (.int (-i)) := fun H Q s k => ⟨i, rfl, k H _ (Same.refl H) (.int _)⟩
theorem mk_var (V0 : Vw H0 vw) {i : Nat} {v : V} (hv : σ[i]? = some (some v)) (h : Td true (vw H0) v d) : Mk vw H0 (tVar i) σ d := fun H Q s k => ⟨v, hv, k H v (Same.refl H) (h.mono (V0.mono H0 H (Same.refl H0) s))⟩
theorem mkA_nil : MkA vw H0 tNil σ [] := fun H Q s k => k H [] (Same.refl H) .nil
theorem mkA_cons (V0 : Vw H0 vw) (h : Mk vw H0 te σ d) (r : MkA vw H0 ta σ ds) : MkA vw H0 (tCons te ta) σ (d :: ds) := fun H Q s k =>
  h H _ s fun H1 x s1 t1 => r H1 _ (s.trans s1) fun H2 xs s2 t2 => k H2 (x :: xs) (s1.trans s2) (.cons (t1.mono (V0.mono H1 H2 (s.trans s1) s2)) t2)
theorem small_line {n : Nat} (h : n ≤ 1000) : n ≤ sizeLine := by rw [sizeLine_eq]; omega
theorem mk_tup (V0 : Vw H0 vw) (hn : ds.length ≤ 1000) (h : MkA vw H0 ta σ ds) : Mk vw H0 (tTup ta) σ (.tuple ds) := fun H Q s k =>
  h H _ s fun H1 xs s1 t1 => ⟨small_line (by rw [t1.length]; exact hn), fun p np => k _ _ (s1.trans (same_upd np)) (.tup (V0.new H1 p _ (s.trans s1) np) (by rw [t1.length]; exact hn) (t1.mono (V0.mono _ _ (s.trans s1) (same_upd np))))⟩
theorem mk_lst (V0 : Vw H0 vw) (hn : ds.length ≤ 1000) (h : MkA vw H0 ta σ ds) : Mk vw H0 (tLst ta) σ (.list ds) := fun H Q s k =>
  h H _ s fun H1 xs s1 t1 => ⟨small_line (by rw [t1.length]; exact hn), fun p np => k _ _ (s1.trans (same_upd np)) (.lst rfl (V0.new H1 p _ (s.trans s1) np) (by rw [t1.length]; exact hn) (t1.mono (V0.mono _ _ (s.trans s1) (same_upd np))))⟩
theorem TdAll.append {L : Bool} {H : Hp} : ∀ {ds es : List PyData} {vs us : List V}, TdAll L H vs ds → TdAll L H us es → TdAll L H (vs ++ us) (ds ++ es)
  | [], _, _, _, r, q => by cases r; exact q
  | d :: ds, _, _, _, r, q => by
    cases r with
    | cons h r => exact .cons h (TdAll.append r q)
theorem TdAll.rep {L : Bool} {H : Hp} {ds : List PyData} {vs : List V} (r : TdAll L H vs ds) : ∀ k : Nat, TdAll L H (List.replicate k vs).flatten (List.replicate k ds).flatten
  | 0 => .nil
  | k + 1 => by
    rw [List.replicate_succ, List.replicate_succ, List.flatten_cons, List.flatten_cons]
    exact r.append (TdAll.rep r k)
theorem TdAll.drop {L : Bool} {H : Hp} : ∀ (k : Nat) {ds : List PyData} {vs : List V}, TdAll L H vs ds → TdAll L H (vs.drop k) (ds.drop k)
  | 0, _, _, r => r
  | k + 1, [], _, r => by cases r; exact .nil
  | k + 1, d :: ds, _, r => by
    cases r with
    | cons h r => exact TdAll.drop k r
theorem TdAll.take {L : Bool} {H : Hp} : ∀ (k : Nat) {ds : List PyData} {vs : List V}, TdAll L H vs ds → TdAll L H (vs.take k) (ds.take k)
  | 0, _, _, r => .nil
  | k + 1, [], _, r => by cases r; exact .nil
  | k + 1, d :: ds, _, r => by
    cases r with
    | cons h r => exact .cons h (TdAll.take k r)
theorem mk_repT (V0 : Vw H0 vw) {k : Int} (h1 : 2 ≤ k) (h2 : k ≤ 1000) (hn : ds ≠ []) (hl : (List.replicate k.toNat ds).flatten.length ≤ 1000) (h : Mk vw H0 te σ (.tuple ds)) : Mk vw H0 (tOp (rRepT K) te (tC (.int k))) σ (.tuple (List.replicate k.toNat ds).flatten) := fun H Q s c =>
  h H _ s fun H1 x s1 t1 => by
    cases t1 with
    | @tup a xs _ e nx r =>
      refine ⟨a, k, xs, rfl, rfl, .inl (.inl (V0.sub _ _ _ e)), fun z => ?_, h1, h2, nx, fun p np => ?_⟩
      · have := r.length
        rw [z] at this
        exact hn (List.eq_nil_of_length_eq_zero this.symm)
      · have rr := r.rep k.toNat
        exact c _ _ (s1.trans (same_upd np)) (.tup (V0.new H1 p _ (s.trans s1) np) (by rw [rr.length]; exact hl) (rr.mono (V0.mono _ _ (s.trans s1) (same_upd np))))
theorem mk_catT (V0 : Vw H0 vw) (hn : ds ≠ []) (hl : ds.length + es.length ≤ 1000) (h : Mk vw H0 te σ (.tuple ds)) (h' : Mk vw H0 tf σ (.tuple es)) : Mk vw H0 (tOp (rCatT K) te tf) σ (.tuple (ds ++ es)) := fun H Q s c =>
  h H _ s fun H1 x s1 t1 => h' H1 _ (s.trans s1) fun H2 y s2 t2 => by
    have t1 := t1.mono (V0.mono H1 H2 (s.trans s1) s2)
    cases t1 with
    | @tup a xs _ e nx r =>
      cases t2 with
      | @tup b ys _ e' ny r' =>
        have l1 := r.length
        have l2 := r'.length
        refine ⟨a, b, xs, ys, rfl, rfl, .inl (.inl (V0.sub _ _ _ e)), .inl (.inl (V0.sub _ _ _ e')), fun z => ?_, small_line (by omega), fun z => ?_, fun _ p np => ?_⟩
        · rw [z] at l1
          exact hn (List.eq_nil_of_length_eq_zero l1.symm)
        · subst z
          cases r'
          rw [List.append_nil] at *
          exact c _ _ (s1.trans s2) (.tup e nx r)
        · have rr := r.append r'
          exact c _ _ ((s1.trans s2).trans (same_upd np)) (.tup (V0.new H2 p _ ((s.trans s1).trans s2) np) (by rw [rr.length, List.length_append]; exact hl) (rr.mono (V0.mono _ _ ((s.trans s1).trans s2) (same_upd np))))
theorem mk_listT (V0 : Vw H0 vw) {r : List V → Hp → VK → Prop} (hr : ∀ a xs H Q, (SqT K H a xs ∧ ∀ l, H l = none → Q (.ref l) (upd H l (.lst xs))) → r [.ref a] H Q) (h : Mk vw H0 te σ (.tuple ds)) : Mk vw H0 (tCB r (tCons te tNil)) σ (.list ds) := fun H Q s c =>
  h H _ s fun H1 x s1 t1 => by
    cases t1 with
    | @tup a xs _ e nx q =>
      exact hr a xs H1 Q ⟨.inl (.inl (V0.sub _ _ _ e)), fun p np => c _ _ (s1.trans (same_upd np)) (.lst rfl (V0.new H1 p _ (s.trans s1) np) nx (q.mono (V0.mono _ _ (s.trans s1) (same_upd np))))⟩
def cutD (ds : List PyData) (lo hi : Option Int) : List PyData := (ds.drop (HT.sIx ds.length 0 lo)).take (HT.sIx ds.length ds.length hi - HT.sIx ds.length 0 lo)
theorem cutV_cut {L : Bool} {H : Hp} {vs : List V} (r : TdAll L H vs ds) (lo hi : Option Int) : TdAll L H (cutV vs lo hi) (cutD ds lo hi) := by
  unfold cutV cutD
  rw [r.length]
  exact (r.drop _).take _
def MkO (to : TO) (σ : L2.St) (o : Option Int) : Prop := ∀ H (Q : Option Int → Hp → Prop), Q o H → to σ H Q
theorem mkO_none : MkO tNoPart σ none := fun H Q h => h
theorem mkO_int {i : Int} : MkO (tPart (tC (.int i))) σ (some i) := fun H Q h => ⟨i, rfl, h⟩
theorem mkO_var {k : Nat} {i : Int} (hv : σ[k]? = some (some (.int i))) : MkO (tPart (tVar k)) σ (some i) := fun H Q h => ⟨_, hv, i, rfl, h⟩
theorem mkO_add {k : Nat} {i j : Int} (hv : σ[k]? = some (some (.int i))) : MkO (tPart (tOp (rI0 fun i j => .int (i + j)) (tVar k) (tC (.int j)))) σ (some (i + j)) := fun H Q h => ⟨_, hv, i, j, rfl, rfl, _, rfl, h⟩
theorem mk_slice (V0 : Vw H0 vw) {tl th : TO} {lo hi : Option Int} (hl : MkO tl σ lo) (hh : MkO th σ hi) (hw : ¬ (HT.sIx ds.length 0 lo = 0 ∧ HT.sIx ds.length ds.length hi = ds.length)) (hn : ds.length ≤ 1000) (h : Mk vw H0 te σ (.tuple ds)) :
    Mk vw H0 (tSl (rSlT K) te tl th) σ (.tuple (cutD ds lo hi)) := fun H Q s c =>
  h H _ s fun H1 x s1 t1 => hl H1 _ (hh H1 _ (by
    cases t1 with
    | @tup a xs _ e nx q =>
      have l1 := q.length
      refine ⟨a, xs, rfl, .inl (.inl (V0.sub _ _ _ e)), by rw [l1]; exact hw, fun p np => ?_⟩
      have rr := cutV_cut q lo hi
      exact c _ _ (s1.trans (same_upd np)) (.tup (V0.new H1 p _ (s.trans s1) np) (Nat.le_trans (cutV_length xs lo hi) nx) (rr.mono (V0.mono _ _ (s.trans s1) (same_upd np))))))
theorem hide_but {l : Addr} {H H' : Hp} (s : SameBut l H H') : Same (hide l H) (hide l H') := fun b o e => by
  unfold hide at e ⊢
  by_cases c : b = l
  · rw [if_pos c] at e; cases e
  · rw [if_neg c] at e ⊢
    exact s b o c e
theorem hide_new {l : Addr} {H : Hp} {o : HO} (n : H l = none) : Same H (hide l (upd H l o)) := fun b x e => by
  have c : b ≠ l := ne_of_none e n
  unfold hide
  rw [if_neg c, upd_ne c]
  exact e
theorem ext_mk {l : Addr} {xs : List V} {Q : VK} (hl : H0 l = some (.lst xs)) (A : TdAll true (hide l H0) xs ds) (hx : ds.length + es.length ≤ 1000) (M : MkA (hide l) H0 ta σ es)
    (k : ∀ H' ys, SameBut l H0 H' → H' l = some (.lst ys) → TdAll true (hide l H') ys (ds ++ es) → Q .non H') : tCons (tLst ta) tNil σ H0 fun vs H2 => rExtend (.ref l) vs H2 Q :=
  M H0 _ (Same.refl H0) fun H1 zs s1 t1 => ⟨small_line (by rw [t1.length]; omega), fun b nb => by
    have l1 := A.length
    have l2 := t1.length
    have hl1 := s1 _ _ hl
    have bl : b ≠ l := fun z => by rw [z, hl1] at nb; cases nb
    have sb : SameBut l H0 (upd (upd H1 b (.lst zs)) l (.lst (xs ++ zs))) := fun c o hc e => by
      rw [upd_ne hc, upd_ne (ne_of_none (s1 _ _ e) nb)]
      exact s1 _ _ e
    refine ⟨l, b, xs, zs, rfl, rfl, by rw [upd_ne (Ne.symm bl)]; exact hl1, upd_same, small_line (by omega), k _ _ sb upd_same ?_⟩
    refine (A.mono (hide_but sb)).append (t1.mono (hide_but fun c o hc e => ?_))
    rw [upd_ne hc, upd_ne (ne_of_none e nb)]
    exact e⟩
theorem app_mk {l : Addr} {xs : List V} {Q : VK} (hl : H0 l = some (.lst xs)) (A : TdAll true (hide l H0) xs ds) (hx : ds.length + 1 ≤ 1000) (M : Mk (hide l) H0 te σ d)
    (k : ∀ H' ys, SameBut l H0 H' → H' l = some (.lst ys) → TdAll true (hide l H') ys (ds ++ [d]) → Q .non H') : tCons te tNil σ H0 fun vs H2 => rAppend (.ref l) vs H2 Q :=
  M H0 _ (Same.refl H0) fun H1 z s1 t1 => by
    have l1 := A.length
    have hl1 := s1 _ _ hl
    have sb : SameBut l H0 (upd H1 l (.lst (xs ++ [z]))) := fun c o hc e => by
      rw [upd_ne hc]
      exact s1 _ _ e
    refine ⟨l, xs, z, rfl, rfl, hl1, by rw [sizeLine_eq]; omega, k _ _ sb upd_same ?_⟩
    refine (A.mono (hide_but sb)).append (.cons (t1.mono (hide_but fun c o hc e => ?_)) .nil)
    rw [upd_ne hc]
    exact e
theorem Mk.go {Q : VK} (M : Mk vw H0 te σ d) (k : ∀ H' x, Same H0 H' → Td true (vw H') x d → Q x H') : te σ H0 Q := M H0 Q (Same.refl H0) k
theorem lst_go {Q : VK} (M : MkA id H0 ta σ ds) (hn : ds.length ≤ 1000) (k : ∀ H' l xs, Same H0 H' → H0 l = none → H' l = some (.lst xs) → TdAll true (hide l H') xs ds → Q (.ref l) H') : tLst ta σ H0 Q :=
  M H0 _ (Same.refl H0) fun H1 xs s1 t1 => ⟨small_line (by rw [t1.length]; exact hn), fun l nl => k _ l xs (s1.trans (same_upd nl)) (s1.free nl) upd_same (t1.mono (hide_new nl))⟩
theorem tup_go {Q : VK} (M : MkA id H0 ta σ ds) (hn : ds.length ≤ 1000) (k : ∀ H' l xs, Same H0 H' → H' l = some (.tup xs) → TdAll true H' xs ds → Q (.ref l) H') : tTup ta σ H0 Q :=
  M H0 _ (Same.refl H0) fun H1 xs s1 t1 => ⟨small_line (by rw [t1.length]; exact hn), fun l nl => k _ l xs (s1.trans (same_upd nl)) upd_same (t1.mono (same_upd nl))⟩
theorem seq_asg {g : TG} {B : TS} {D : Ends} {H : Hp} (h : te σ H fun x H1 => g x σ H1 fun σ' H' => B D σ' H') : tSeq (tAsg te g) B D σ H := h
end
end Kin

set_option maxHeartbeats 4000000
/-! comprehensions whose items are told by a property that stays -/
namespace Kin
open PySem PySem.Spec PyProof.Rows L2
section
variable {J : It} {n : Nat} {G : Hp → Prop} {Y : Nat → Hp → V → Hp → Prop}
theorem same_hide {D : Addr} {H H' : Hp} (s : Same H H') : Same (hide D H) (hide D H') := hide_but s.but
theorem hide_upd {D : Addr} {H : Hp} {o : HO} : hide D (upd H D o) = hide D H := by
  funext b
  unfold hide
  by_cases c : b = D
  · rw [if_pos c, if_pos c]
  · rw [if_neg c, if_neg c, upd_ne c]
theorem hide_free {D : Addr} {H : Hp} (n : H D = none) : hide D H = H := by
  funext b
  unfold hide
  by_cases c : b = D
  · rw [if_pos c, c, n]
  · rw [if_neg c]
theorem hide_at {D b : Addr} {H : Hp} {o : HO} (c : b ≠ D) (h : H b = some o) : hide D H b = some o := by
  unfold hide
  rw [if_neg c]
  exact h
theorem lc_gen (w : Walk J n G Y) {g : TG} {te : TE} {vs : List Nat} {σ : L2.St} {H1 : Hp} {D : Addr} {Qd : Hp → Prop} {PY : Nat → V → Hp → Prop} (hn : n ≤ 1000000) (hm : ∀ i y H H', PY i y H → Same H H' → PY i y H') (nD : H1 D = none)
    (hG : ∀ H, Same H1 H → G H)
    (hs : ∀ i x H H', i < n → Same H1 H → (∃ acc, H D = some (.lst acc)) → Y i H x H' → ∀ Q' : VK, (∀ y H4, Same H H4 → PY i y (hide D H4) → Q' y H4) → g x (wipe σ vs) H' fun σ2 H2 => wipe σ2 vs = wipe σ vs ∧ te σ2 H2 Q')
    (hd : ∀ H' ys, Same H1 H' → H' D = some (.lst ys) → ys.length = n → (∀ i y, ys[i]? = some y → PY i y (hide D H')) → Qd H') :
    ∃ W : Nat → Nat → Hp → Prop, (∃ m, W 0 m (upd H1 D (.lst []))) ∧ ∀ i m H, W i m H →
      (J.stop i H ∧ Qd H) ∨ (J.go i H ∧ ∃ Nx : Hp → Prop, (∀ H', Nx H' → ∃ m', m' < m ∧ W (i + 1) m' H') ∧ ∀ x H', J.yld i H x H' → g x (wipe σ vs) H' fun σ2 H2 => wipe σ2 vs = wipe σ vs ∧ tYes σ2 H2 fun b H3 =>
        if b = true then te σ2 H3 fun y H4 => ∃ acc, H4 D = some (.lst acc) ∧ acc.length < sizeLine ∧ Nx (upd H4 D (.lst (acc ++ [y]))) else Nx H3) := by
  refine lc_itY w (fun i H => Same H1 H ∧ ∃ ys : List V, H D = some (.lst ys) ∧ ys.length = i ∧ ∀ j y, ys[j]? = some y → PY j y (hide D H)) ?_ (fun i H _ p => hG H p.1) ?_ ?_
  · exact ⟨same_upd nD, [], upd_same, rfl, fun j y e => by cases e⟩
  · rintro i x H H' hi ⟨s, ys, eD, hl, hy⟩ y
    refine hs i x H H' hi s ⟨ys, eD⟩ y _ fun z H4 s4 pz => ?_
    have e4 := s4 _ _ eD
    refine ⟨ys, e4, by rw [sizeLine_eq]; omega, same_set (s.trans s4) nD, ys ++ [z], upd_same, by rw [List.length_append, hl]; rfl, fun j u hj => ?_⟩
    rw [hide_upd]
    by_cases hji : j < ys.length
    · rw [List.getElem?_append_left hji] at hj
      exact hm _ _ _ _ (hy j u hj) (same_hide s4)
    · have hj' : j = ys.length := by
        have := (List.getElem?_eq_some_iff.mp hj).1
        rw [List.length_append] at this
        simp at this
        omega
      subst hj'
      rw [List.getElem?_append_right (by omega)] at hj
      simp at hj
      subst hj
      rw [hl]
      exact pz
  · rintro H ⟨s, ys, eD, hl, hy⟩
    exact hd H ys s eD hl hy
/-- the items are the texts zs -/
theorem lc_strs (w : Walk J n G Y) {g : TG} {te : TE} {vs : List Nat} {σ : L2.St} {H1 : Hp} {D : Addr} {Qd : Hp → Prop} (zs : List Str) (hz : zs.length = n) (hn : n ≤ 1000000) (nD : H1 D = none) (hG : ∀ H, Same H1 H → G H)
    (hs : ∀ i x H H', i < n → Same H1 H → Y i H x H' → ∀ Q' : VK, (∀ H4 z, Same H H4 → zs[i]? = some z → Q' (.str z) H4) → g x (wipe σ vs) H' fun σ2 H2 => wipe σ2 vs = wipe σ vs ∧ te σ2 H2 Q')
    (hd : ∀ H', Same H1 H' → H' D = some (.lst (zs.map V.str)) → Qd H') :
    ∃ W : Nat → Nat → Hp → Prop, (∃ m, W 0 m (upd H1 D (.lst []))) ∧ ∀ i m H, W i m H →
      (J.stop i H ∧ Qd H) ∨ (J.go i H ∧ ∃ Nx : Hp → Prop, (∀ H', Nx H' → ∃ m', m' < m ∧ W (i + 1) m' H') ∧ ∀ x H', J.yld i H x H' → g x (wipe σ vs) H' fun σ2 H2 => wipe σ2 vs = wipe σ vs ∧ tYes σ2 H2 fun b H3 =>
        if b = true then te σ2 H3 fun y H4 => ∃ acc, H4 D = some (.lst acc) ∧ acc.length < sizeLine ∧ Nx (upd H4 D (.lst (acc ++ [y]))) else Nx H3) := by
  refine lc_gen w (PY := fun i y _ => ∃ z, zs[i]? = some z ∧ y = .str z) hn (fun _ _ _ _ p _ => p) nD hG (fun i x H H' hi s _ y Q' hq => hs i x H H' hi s y Q' fun H4 z s4 ez => hq _ _ s4 ⟨z, ez, rfl⟩) fun H' ys s eD hl hy => ?_
  have e : ys = zs.map V.str := by
    refine List.ext_getElem? fun i => ?_
    rw [List.getElem?_map]
    cases e1 : ys[i]? with
    | none =>
      have := List.getElem?_eq_none_iff.mp e1
      rw [List.getElem?_eq_none (by omega)]
      rfl
    | some y =>
      obtain ⟨z, ez, rfl⟩ := hy i y e1
      rw [ez]
      rfl
  exact hd H' s (by rw [eD, e])
theorem tdAll_of {L : Bool} {H : Hp} : ∀ {ds : List PyData} {ys : List V}, ys.length = ds.length → (∀ (i : Nat) (y : V), ys[i]? = some y → ∃ d, ds[i]? = some d ∧ Td L H y d) → TdAll L H ys ds
  | [], [], _, _ => .nil
  | d :: ds, y :: ys, hl, h => by
    obtain ⟨d', e, t⟩ := h 0 y rfl
    cases e
    exact .cons t (tdAll_of (by simpa using hl) fun i z e => h (i + 1) z e)
  | [], _ :: _, hl, _ => by cases hl
  | _ :: _, [], hl, _ => by cases hl
/-- the items have the data ds -/
theorem lc_tds (w : Walk J n G Y) {g : TG} {te : TE} {vs : List Nat} {σ : L2.St} {H1 : Hp} {D : Addr} {Qd : Hp → Prop} (ds : List PyData) (hz : ds.length = n) (hn : n ≤ 1000000) (nD : H1 D = none) (hG : ∀ H, Same H1 H → G H)
    (hs : ∀ i x H H', i < n → Same H1 H → (∃ acc, H D = some (.lst acc)) → Y i H x H' → ∀ Q' : VK, (∀ H4 y d, Same H H4 → ds[i]? = some d → Td true (hide D H4) y d → Q' y H4) → g x (wipe σ vs) H' fun σ2 H2 => wipe σ2 vs = wipe σ vs ∧ te σ2 H2 Q')
    (hd : ∀ H' ys, Same H1 H' → H' D = some (.lst ys) → TdAll true (hide D H') ys ds → Qd H') :
    ∃ W : Nat → Nat → Hp → Prop, (∃ m, W 0 m (upd H1 D (.lst []))) ∧ ∀ i m H, W i m H →
      (J.stop i H ∧ Qd H) ∨ (J.go i H ∧ ∃ Nx : Hp → Prop, (∀ H', Nx H' → ∃ m', m' < m ∧ W (i + 1) m' H') ∧ ∀ x H', J.yld i H x H' → g x (wipe σ vs) H' fun σ2 H2 => wipe σ2 vs = wipe σ vs ∧ tYes σ2 H2 fun b H3 =>
        if b = true then te σ2 H3 fun y H4 => ∃ acc, H4 D = some (.lst acc) ∧ acc.length < sizeLine ∧ Nx (upd H4 D (.lst (acc ++ [y]))) else Nx H3) :=
  lc_gen w (PY := fun i y H => ∃ d, ds[i]? = some d ∧ Td true H y d) hn (fun _ _ _ _ ⟨d, e, t⟩ s => ⟨d, e, t.mono s⟩) nD hG (fun i x H H' hi s a y Q' hq => hs i x H H' hi s a y Q' fun H4 y d s4 ez td => hq _ _ s4 ⟨d, ez, td⟩) fun H' ys s eD hl hy =>
    hd H' ys s eD (tdAll_of (by omega) hy)
/-- the items are the things zs, known ahead -/
theorem lc_vals (w : Walk J n G Y) {g : TG} {te : TE} {vs : List Nat} {σ : L2.St} {H1 : Hp} {D : Addr} {Qd : Hp → Prop} (zs : List V) (hz : zs.length = n) (hn : n ≤ 1000000) (nD : H1 D = none) (hG : ∀ H, Same H1 H → G H)
    (hs : ∀ i x H H', i < n → Same H1 H → Y i H x H' → ∀ Q' : VK, (∀ H4 z, Same H H4 → zs[i]? = some z → Q' z H4) → g x (wipe σ vs) H' fun σ2 H2 => wipe σ2 vs = wipe σ vs ∧ te σ2 H2 Q')
    (hd : ∀ H', Same H1 H' → H' D = some (.lst zs) → Qd H') :
    ∃ W : Nat → Nat → Hp → Prop, (∃ m, W 0 m (upd H1 D (.lst []))) ∧ ∀ i m H, W i m H →
      (J.stop i H ∧ Qd H) ∨ (J.go i H ∧ ∃ Nx : Hp → Prop, (∀ H', Nx H' → ∃ m', m' < m ∧ W (i + 1) m' H') ∧ ∀ x H', J.yld i H x H' → g x (wipe σ vs) H' fun σ2 H2 => wipe σ2 vs = wipe σ vs ∧ tYes σ2 H2 fun b H3 =>
        if b = true then te σ2 H3 fun y H4 => ∃ acc, H4 D = some (.lst acc) ∧ acc.length < sizeLine ∧ Nx (upd H4 D (.lst (acc ++ [y]))) else Nx H3) := by
  refine lc_gen w (PY := fun i y _ => zs[i]? = some y) hn (fun _ _ _ _ p _ => p) nD hG (fun i x H H' hi s _ y Q' hq => hs i x H H' hi s y Q' fun H4 z s4 ez => hq _ _ s4 ez) fun H' ys s eD hl hy => ?_
  have e : ys = zs := by
    refine List.ext_getElem? fun i => ?_
    cases e1 : ys[i]? with
    | none =>
      have := List.getElem?_eq_none_iff.mp e1
      rw [List.getElem?_eq_none (by omega)]
    | some y => exact (hy i y e1).symm
  exact hd H' s (by rw [eD, e])
end
end Kin

set_option maxHeartbeats 4000000
/-! lines and words; the numbers' dict -/
namespace Kin
open PySem PySem.Spec PyProof.Rows L2
def linesTxt (ls : List (List Str)) : Str := Txt.join "" (ls.map fun ws => Txt.join " " ws ++ "\n")
def lnsOf (z : Str) : List (List Str) := ((Txt.split z "\n").dropLast).map fun l => Txt.split l " "
theorem sum_ge : ∀ {l : List Nat} {x : Nat}, x ∈ l → x ≤ l.sum
  | y :: l, x, h => by
    rw [List.sum_cons]
    rcases List.mem_cons.mp h with rfl | h
    · omega
    · have := sum_ge h
      omega
theorem sum_drop : ∀ l : List Nat, l.dropLast.sum ≤ l.sum
  | [] => Nat.le_refl _
  | [x] => by simp
  | x :: y :: l => by
    have := sum_drop (y :: l)
    rw [List.dropLast_cons_cons, List.sum_cons, List.sum_cons]
    omega
theorem lines_bounds {z : Str} (h : z.length ≤ 1000) : (lnsOf z).length ≤ 1000 ∧ ∀ l ∈ lnsOf z, 1 ≤ l.length ∧ l.length ≤ 1000 ∧ ∀ w ∈ l, w.length ≤ 1000 := by
  have h1 := split_weight z "\n" (by decide +kernel)
  have h2 := PyProof.Rows.split_pos z "\n"
  refine ⟨?_, fun l hl => ?_⟩
  · unfold lnsOf
    rw [List.length_map, List.length_dropLast]
    omega
  · obtain ⟨x, hx, rfl⟩ := List.mem_map.mp hl
    have hx' : x ∈ Txt.split z "\n" := List.dropLast_subset _ hx
    have hn : 2 ≤ (Txt.split z "\n").length := by
      have := List.length_pos_of_mem hx
      rw [List.length_dropLast] at this
      omega
    have h3 : x.length ≤ ((Txt.split z "\n").map (·.length)).sum := sum_ge (List.mem_map_of_mem hx')
    have h4 := split_weight x " " (by decide +kernel)
    have h5 := PyProof.Rows.split_pos x " "
    refine ⟨h5, by omega, fun w hw => ?_⟩
    have := part_short hw
    omega
theorem cut_init {xs : List V} : cutV xs none (some (-1)) = xs.dropLast := by
  have e1 : HT.sIx xs.length xs.length (some (-1)) = xs.length - 1 := by
    show (if (-1 : Int) < 0 then ((-1 : Int) + (xs.length : Int)).toNat else min (-1 : Int).toNat xs.length) = _
    rw [if_pos (by decide)]
    omega
  have e0 : HT.sIx xs.length 0 none = 0 := rfl
  unfold cutV
  rw [e1, e0, List.drop_zero, Nat.sub_zero, List.dropLast_eq_take]
theorem cut_tail {xs : List V} : cutV xs (some 1) none = xs.drop 1 := by
  have e1 : HT.sIx xs.length 0 (some 1) = min 1 xs.length := HT.sIx_nat xs.length 0 1
  have e0 : HT.sIx xs.length xs.length none = xs.length := rfl
  unfold cutV
  rw [e1, e0]
  cases xs with
  | nil => rfl
  | cons x r =>
    rw [show min 1 (x :: r).length = 1 by rw [List.length_cons]; omega]
    exact List.take_of_length_le (by rw [List.length_drop]; exact Nat.le_refl _)
theorem cut_drop {xs : List V} {k : Nat} (h : k ≤ xs.length) : cutV xs (some (k : Int)) none = xs.drop k := by
  have e1 : HT.sIx xs.length 0 (some (k : Int)) = k := by rw [HT.sIx_nat xs.length 0 k]; omega
  have e0 : HT.sIx xs.length xs.length none = xs.length := rfl
  unfold cutV
  rw [e1, e0]
  exact List.take_of_length_le (by rw [List.length_drop]; exact Nat.le_refl _)
theorem cut_dropG {xs : List V} {k : Nat} : cutV xs (some (k : Int)) none = xs.drop k := by
  by_cases h : k ≤ xs.length
  · exact cut_drop h
  · have e1 : HT.sIx xs.length 0 (some (k : Int)) = xs.length := by rw [HT.sIx_nat xs.length 0 k]; omega
    unfold cutV
    rw [e1, List.drop_length, List.drop_of_length_le (by omega), List.take_nil]
theorem cut_take {xs : List V} {k : Nat} : cutV xs none (some (k : Int)) = xs.take k := by
  have e1 : HT.sIx xs.length xs.length (some (k : Int)) = min k xs.length := HT.sIx_nat xs.length xs.length k
  have e0 : HT.sIx xs.length 0 none = 0 := rfl
  unfold cutV
  rw [e1, e0, List.drop_zero, Nat.sub_zero]
  by_cases h : k ≤ xs.length
  · rw [Nat.min_eq_left h]
  · rw [Nat.min_eq_right (by omega), List.take_of_length_le (Nat.le_refl _), List.take_of_length_le (by omega)]
/-! ### the texts of the numbers 0 to 7 -/
def numI (s : Str) : Option Int := (List.range 8).findSome? fun (i : Nat) => if toString (i : Int) = s then some (i : Int) else none
def numsK : List (Key × V) := (List.range 8).map fun (i : Nat) => ((Sum.inr (toString (i : Int)) : Key), V.int (i : Int))
theorem valV_nums (s : Str) : valV numsK (Sum.inr s : Key) = (numI s).map V.int := by
  unfold valV numsK numI
  generalize List.range 8 = l
  induction l with
  | nil => rfl
  | cons i l ih =>
    rw [List.map_cons, List.find?_cons, List.findSome?_cons]
    by_cases h : toString (i : Int) = s
    · rw [if_pos h]
      have : decide ((Sum.inr (toString (i : Int)) : Key) = Sum.inr s) = true := decide_eq_true (by rw [h])
      simp only [this]
      rfl
    · rw [if_neg h]
      have : decide ((Sum.inr (toString (i : Int)) : Key) = Sum.inr s) = false := decide_eq_false (fun z => h (Sum.inr.inj z))
      simp only [this]
      exact ih
def optD : Option Int → PyData
  | none => .none
  | some i => .int i
def optI : Option Int → V
  | none => .non
  | some i => .int i
theorem td_opt {L : Bool} {H : Hp} : ∀ o : Option Int, Td L H (optI o) (optD o)
  | none => .non
  | some i => .int i
theorem get_opt (o : Option Int) : (o.map V.int).getD .non = optI o := by cases o <;> rfl
theorem yes_go {σ : L2.St} {H : Hp} {A B : Hp → Prop} (h : A H) : tYes σ H fun b H3 => if b = true then A H3 else B H3 := by
  show (if true = true then A H else B H)
  rw [if_pos rfl]
  exact h
/-! ### a dict's comprehension over a walk -/
section
variable {J : It} {n : Nat} {G : Hp → Prop} {Y : Nat → Hp → V → Hp → Prop}
theorem dc_it (w : Walk J n G Y) {g : TG} {tt : TT} {tk tv : TE} {vs : List Nat} {σ : L2.St} {H1 : Hp} {D : Addr} {Qd : Hp → Prop} (Pv : Nat → Hp → Prop) (h0 : Pv 0 (upd H1 D (.dK []))) (hG : ∀ i H, i ≤ n → Pv i H → G H)
    (hs : ∀ i x H H', i < n → Pv i H → Y i H x H' → g x (wipe σ vs) H' fun σ2 H2 => wipe σ2 vs = wipe σ vs ∧ tt σ2 H2 fun b H3 =>
      if b = true then tk σ2 H3 fun y H4 => tv σ2 H4 fun z H5 => ∃ kvs k, y = kV k ∧ H5 D = some (.dK kvs) ∧ kvs.length < sizeLine ∧ Pv (i + 1) (upd H5 D (.dK (putK kvs k z))) else Pv (i + 1) H3) (hd : ∀ H, Pv n H → Qd H) :
    ∃ W : Nat → Nat → Hp → Prop, (∃ m, W 0 m (upd H1 D (.dK []))) ∧ ∀ i m H, W i m H →
      (J.stop i H ∧ Qd H) ∨ (J.go i H ∧ ∃ Nx : Hp → Prop, (∀ H', Nx H' → ∃ m', m' < m ∧ W (i + 1) m' H') ∧ ∀ x H', J.yld i H x H' → g x (wipe σ vs) H' fun σ2 H2 => wipe σ2 vs = wipe σ vs ∧ tt σ2 H2 fun b H3 =>
        if b = true then tk σ2 H3 fun y H4 => tv σ2 H4 fun z H5 => ∃ kvs k, y = kV k ∧ H5 D = some (.dK kvs) ∧ kvs.length < sizeLine ∧ Nx (upd H5 D (.dK (putK kvs k z))) else Nx H3) := by
  refine ⟨fun i m H => m = n - i ∧ i ≤ n ∧ Pv i H, ⟨n, by simp, Nat.zero_le _, h0⟩, ?_⟩
  rintro i m H ⟨rfl, hi, p⟩
  have q := hG i H hi p
  by_cases hlt : i < n
  · refine .inr ⟨w.goes i H hlt q, Pv (i + 1), fun H' p' => ⟨n - (i + 1), by omega, rfl, hlt, p'⟩, fun x H' y => hs i x H H' hlt p (w.yields i H x H' hlt q y)⟩
  · have e : i = n := by omega
    subst e
    exact .inl ⟨w.stops H q, hd H p⟩
end
theorem nums_put : ∀ i : _root_.Fin 8, putK (numsK.take i.val) (Sum.inr (toString (i.val : Int)) : Key) (.int (i.val : Int)) = numsK.take (i.val + 1) := by
  intro i
  have h : ∀ i : _root_.Fin 8, (numsK.take i.val).any (fun kv => decide (kv.1 = (Sum.inr (toString (i.val : Int)) : Key))) = false := by decide +kernel
  unfold putK
  rw [if_neg (by rw [h i]; exact Bool.false_ne_true), List.take_add_one]
  congr 1
  unfold numsK
  rw [List.getElem?_map, List.getElem?_range i.isLt]
  rfl
/-! ### what is read -/
def standR : List Str → PyData
  | [] => .tuple []
  | w :: r => .tuple (.str (if w = "-" then "" else w) :: r.map fun s => optD (numI s))
def parR (s : Str) : PyData := if s = "-" then .none else .str s
def persR (ws : List Str) : PyData := .tuple ((ws.take 2).map PyData.str ++ (ws.drop 2).map parR)
def speechR (z : Str) : PyData :=
  match lnsOf z with
  | [] => .none
  | l :: ls => .tuple [optD (numI (l.getD 1 "")), optD (numI (l.getD 3 "")), .tuple (ls.map standR)]
def familyR (z : Str) : PyData := .tuple ((lnsOf z).map persR)
def headR (z : Str) : Bool :=
  match lnsOf z with
  | [] => false
  | l :: _ => decide (l.length = 4)
/-! ### what is written -/
def numW : PyData → Str
  | .int i => toString i
  | _ => ""
def wordW (w : Str) : Str := if w = "" then "-" else w
def standW : PyData → List Str
  | .tuple (.str w :: ns) => wordW w :: ns.map numW
  | _ => []
def speechW : PyData → Str
  | .tuple [he, she, .tuple ss] => linesTxt (["he", numW he, "she", numW she] :: ss.map standW)
  | _ => ""
def partW : PyData → Str
  | .str s => wordW s
  | _ => "-"
def persW : PyData → List Str
  | .tuple ps => ps.map partW
  | _ => []
def familyW : PyData → Str
  | .tuple ps => linesTxt (ps.map persW)
  | _ => ""
end Kin

set_option maxHeartbeats 4000000
/-! a field as a target among others: o.f, o.g = .. -/
namespace Kin
open PySem PySem.Spec PyProof.Rows L2
section
variable {X : Cx} {o : Expr} {f : Str} {pos : Pos} {to : TE}
def gFld (K : PySem.W.Frag) (to : TE) (f : Str) : TG := fun v σ H Q => to σ H fun x H2 => ∃ a C dx fs, x = .ref a ∧ H2 a = some (.ins C dx fs) ∧ Cls K C ∧ NoAttr K C f ∧ fs.length < 1000 ∧ Q σ (upd H2 a (.ins C dx (putF f v fs)))
theorem pg_fld (ho : PE X o to) : PG X (.Attribute o f pos) (gFld X.K to f) := by
  refine ⟨fun pins s σ H v u Q I r h => ?_⟩
  rw [assign_Attribute]
  refine wpAny_bind (wpAny_holding (thn (ho.run pins s σ H _ I h) fun ov s1 ⟨x, H2, I2, rx, a, C, dx, fs, ex, ea, c, n, l, q2⟩ => ?_))
  subst ex
  obtain rfl : ov = Value.ref a := rx
  refine wpAny_bind (wpAny_standAt (wpAny_bind (wpAny_holding ?_)))
  exact setattr_ok I2 ea c n l r fun s3 I3 => wpAny_release ⟨σ, _, I3, q2⟩
end
end Kin

set_option maxHeartbeats 4000000
namespace K17
open PySem PySem.Spec PyProof.Rows L2 Kin
abbrev s_is_letters : Stmt := top 21
abbrev N_is_letters : List Str := ["thing", "most", "sign"]
theorem sc_is_letters : FnScope N_is_letters ["thing", "most"] (defScope s_is_letters) := ⟨rfl, rfl, rfl, by decide +kernel, rfl, by decide +kernel, by decide +kernel⟩
abbrev s_is_name : Stmt := top 22
abbrev N_is_name : List Str := ["thing"]
theorem sc_is_name : FnScope N_is_name ["thing"] (defScope s_is_name) := ⟨rfl, rfl, rfl, by decide +kernel, rfl, by decide +kernel, by decide +kernel⟩
abbrev s_is_sex : Stmt := top 23
abbrev N_is_sex : List Str := ["thing"]
theorem sc_is_sex : FnScope N_is_sex ["thing"] (defScope s_is_sex) := ⟨rfl, rfl, rfl, by decide +kernel, rfl, by decide +kernel, by decide +kernel⟩
abbrev s_need_name : Stmt := top 24
abbrev N_need_name : List Str := ["family", "thing", "person"]
theorem sc_need_name : FnScope N_need_name ["family", "thing"] (defScope s_need_name) := ⟨rfl, rfl, rfl, by decide +kernel, rfl, by decide +kernel, by decide +kernel⟩
abbrev s_need_sex : Stmt := top 31
abbrev N_need_sex : List Str := ["thing"]
theorem sc_need_sex : FnScope N_need_sex ["thing"] (defScope s_need_sex) := ⟨rfl, rfl, rfl, by decide +kernel, rfl, by decide +kernel, by decide +kernel⟩
abbrev s_is_word : Stmt := top 35
abbrev N_is_word : List Str := ["thing"]
theorem sc_is_word : FnScope N_is_word ["thing"] (defScope s_is_word) := ⟨rfl, rfl, rfl, by decide +kernel, rfl, by decide +kernel, by decide +kernel⟩
abbrev s_is_number : Stmt := top 36
abbrev N_is_number : List Str := ["thing", "many"]
theorem sc_is_number : FnScope N_is_number ["thing", "many"] (defScope s_is_number) := ⟨rfl, rfl, rfl, by decide +kernel, rfl, by decide +kernel, by decide +kernel⟩
abbrev s_is_stand : Stmt := top 37
abbrev N_is_stand : List Str := ["thing", "many", "word", "numbers", "number"]
theorem sc_is_stand : FnScope N_is_stand ["thing", "many"] (defScope s_is_stand) := ⟨rfl, rfl, rfl, by decide +kernel, rfl, by decide +kernel, by decide +kernel⟩
abbrev s_is_speech : Stmt := top 38
abbrev N_is_speech : List Str := ["thing", "many", "he", "she", "stands", "stand"]
theorem sc_is_speech : FnScope N_is_speech ["thing"] (defScope s_is_speech) := ⟨rfl, rfl, rfl, by decide +kernel, rfl, by decide +kernel, by decide +kernel⟩
abbrev s_need_speech : Stmt := top 39
abbrev N_need_speech : List Str := ["thing"]
theorem sc_need_speech : FnScope N_need_speech ["thing"] (defScope s_need_speech) := ⟨rfl, rfl, rfl, by decide +kernel, rfl, by decide +kernel, by decide +kernel⟩
abbrev s_sex_among : Stmt := top 49
abbrev N_sex_among : List Str := ["persons", "thing", "person"]
theorem sc_sex_among : FnScope N_sex_among ["persons", "thing"] (defScope s_sex_among) := ⟨rfl, rfl, rfl, by decide +kernel, rfl, by decide +kernel, by decide +kernel⟩
abbrev s_need_parent : Stmt := top 50
abbrev N_need_parent : List Str := ["persons", "thing", "sex"]
theorem sc_need_parent : FnScope N_need_parent ["persons", "thing", "sex"] (defScope s_need_parent) := ⟨rfl, rfl, rfl, by decide +kernel, rfl, by decide +kernel, by decide +kernel⟩
abbrev s_with_parent : Stmt := top 51
abbrev N_with_parent : List Str := ["family", "name", "parent", "at", "sex", "parents", "_", "own", "father", "mother", "person"]
theorem sc_with_parent : FnScope N_with_parent ["family", "name", "parent"] (defScope s_with_parent) := ⟨rfl, rfl, rfl, by decide +kernel, rfl, by decide +kernel, by decide +kernel⟩
abbrev s_law_draw : Stmt := top 54
abbrev N_law_draw : List Str := ["_law_script", "_law_town", "_law_many", "_law_at", "_law_mixed", "_law_one"]
theorem sc_law_draw : FnScope N_law_draw ["_law_script", "_law_town", "_law_many"] (defScope s_law_draw) := ⟨rfl, rfl, rfl, by decide +kernel, rfl, by decide +kernel, by decide +kernel⟩
abbrev s_law_pick : Stmt := top 55
abbrev N_law_pick : List Str := ["_law_script", "_law_town", "_law_some"]
theorem sc_law_pick : FnScope N_law_pick ["_law_script", "_law_town", "_law_some"] (defScope s_law_pick) := ⟨rfl, rfl, rfl, by decide +kernel, rfl, by decide +kernel, by decide +kernel⟩
abbrev s_law_speech : Stmt := top 62
abbrev N_law_speech : List Str := ["_law_script", "_law_town", "_law_many", "_law_stands", "_law_k", "_law_word_here", "_law_step"]
theorem sc_law_speech : FnScope N_law_speech ["_law_script", "_law_town", "_law_many"] (defScope s_law_speech) := ⟨rfl, rfl, rfl, by decide +kernel, rfl, by decide +kernel, by decide +kernel⟩
abbrev s_law_which : Stmt := top 63
abbrev N_law_which : List Str := ["_law_e", "_law_own"]
theorem sc_law_which : FnScope N_law_which ["_law_e"] (defScope s_law_which) := ⟨rfl, rfl, rfl, by decide +kernel, rfl, by decide +kernel, by decide +kernel⟩
abbrev s_law_do : Stmt := top 64
abbrev N_law_do : List Str := ["_law_house", "_law_what", "_law_one", "_law_other", "_law_third", "_law_fourth", "_law_e"]
theorem sc_law_do : FnScope N_law_do ["_law_house", "_law_what", "_law_one", "_law_other", "_law_third", "_law_fourth"] (defScope s_law_do) := ⟨rfl, rfl, rfl, by decide +kernel, rfl, by decide +kernel, by decide +kernel⟩
abbrev s_law_deed : Stmt := top 65
abbrev N_law_deed : List Str := ["_law_script", "_law_town", "_law_family_here", "_law_names", "_law_name", "_law_some", "_law_at", "_law_parent", "_law_deed_here", "_law_place", "_law_made", "_law_one", "_law_sexes", "_law_person"]
theorem sc_law_deed : FnScope N_law_deed ["_law_script", "_law_town", "_law_family_here"] (defScope s_law_deed) := ⟨rfl, rfl, rfl, by decide +kernel, rfl, by decide +kernel, by decide +kernel⟩
abbrev s_law : Stmt := top 66
abbrev N_law : List Str := ["_law_script", "_law_town", "_law_k", "_law_here", "_law_house", "_law_ahead", "_law_before", "_law_twin", "_law_now", "_law_many", "_law_deed_here"]
theorem sc_law : FnScope N_law ["_law_script"] (defScope s_law) := ⟨rfl, rfl, rfl, by decide +kernel, rfl, by decide +kernel, by decide +kernel⟩
structure Txt (K : PySem.W.Frag) (mg : Str → Option Value) extends TxtB K mg where
  a_is_letters : Addr
  f_is_letters : FuncData
  d_is_letters : Df K mg "is_letters" s_is_letters ["thing", "most"] a_is_letters f_is_letters
  a_is_name : Addr
  f_is_name : FuncData
  d_is_name : Df K mg "is_name" s_is_name ["thing"] a_is_name f_is_name
  a_is_sex : Addr
  f_is_sex : FuncData
  d_is_sex : Df K mg "is_sex" s_is_sex ["thing"] a_is_sex f_is_sex
  a_need_name : Addr
  f_need_name : FuncData
  d_need_name : Df K mg "need_name" s_need_name ["family", "thing"] a_need_name f_need_name
  a_need_sex : Addr
  f_need_sex : FuncData
  d_need_sex : Df K mg "need_sex" s_need_sex ["thing"] a_need_sex f_need_sex
  a_is_word : Addr
  f_is_word : FuncData
  d_is_word : Df K mg "is_word" s_is_word ["thing"] a_is_word f_is_word
  a_is_number : Addr
  f_is_number : FuncData
  d_is_number : Df K mg "is_number" s_is_number ["thing", "many"] a_is_number f_is_number
  a_is_stand : Addr
  f_is_stand : FuncData
  d_is_stand : Df K mg "is_stand" s_is_stand ["thing", "many"] a_is_stand f_is_stand
  a_is_speech : Addr
  f_is_speech : FuncData
  d_is_speech : Df K mg "is_speech" s_is_speech ["thing"] a_is_speech f_is_speech
  a_need_speech : Addr
  f_need_speech : FuncData
  d_need_speech : Df K mg "need_speech" s_need_speech ["thing"] a_need_speech f_need_speech
  a_sex_among : Addr
  f_sex_among : FuncData
  d_sex_among : Df K mg "sex_among" s_sex_among ["persons", "thing"] a_sex_among f_sex_among
  a_need_parent : Addr
  f_need_parent : FuncData
  d_need_parent : Df K mg "need_parent" s_need_parent ["persons", "thing", "sex"] a_need_parent f_need_parent
  a_with_parent : Addr
  f_with_parent : FuncData
  d_with_parent : Df K mg "with_parent" s_with_parent ["family", "name", "parent"] a_with_parent f_with_parent
  a_law_draw : Addr
  f_law_draw : FuncData
  d_law_draw : Df K mg "_law_draw" s_law_draw ["_law_script", "_law_town", "_law_many"] a_law_draw f_law_draw
  a_law_pick : Addr
  f_law_pick : FuncData
  d_law_pick : Df K mg "_law_pick" s_law_pick ["_law_script", "_law_town", "_law_some"] a_law_pick f_law_pick
  a_law_speech : Addr
  f_law_speech : FuncData
  d_law_speech : Df K mg "_law_speech" s_law_speech ["_law_script", "_law_town", "_law_many"] a_law_speech f_law_speech
  a_law_which : Addr
  f_law_which : FuncData
  d_law_which : Df K mg "_law_which" s_law_which ["_law_e"] a_law_which f_law_which
  a_law_do : Addr
  f_law_do : FuncData
  d_law_do : Df K mg "_law_do" s_law_do ["_law_house", "_law_what", "_law_one", "_law_other", "_law_third", "_law_fourth"] a_law_do f_law_do
  a_law_deed : Addr
  f_law_deed : FuncData
  d_law_deed : Df K mg "_law_deed" s_law_deed ["_law_script", "_law_town", "_law_family_here"] a_law_deed f_law_deed
abbrev s_m_init : Stmt := inClass (top 52) 0
abbrev N_m_init : List Str := ["self", "speech"]
theorem sc_m_init : FnScope N_m_init ["self", "speech"] (defScope s_m_init) := ⟨rfl, rfl, rfl, by decide +kernel, rfl, by decide +kernel, by decide +kernel⟩
abbrev s_m_len : Stmt := inClass (top 52) 1
abbrev N_m_len : List Str := ["self"]
theorem sc_m_len : FnScope N_m_len ["self"] (defScope s_m_len) := ⟨rfl, rfl, rfl, by decide +kernel, rfl, by decide +kernel, by decide +kernel⟩
abbrev s_m_become : Stmt := inClass (top 52) 2
abbrev N_m_become : List Str := ["self", "family", "speech"]
theorem sc_m_become : FnScope N_m_become ["self", "family", "speech"] (defScope s_m_become) := ⟨rfl, rfl, rfl, by decide +kernel, rfl, by decide +kernel, by decide +kernel⟩
abbrev s_m_born : Stmt := inClass (top 52) 3
abbrev N_m_born : List Str := ["self", "name", "sex", "father", "mother"]
theorem sc_m_born : FnScope N_m_born ["self", "name", "sex", "father", "mother"] (defScope s_m_born) := ⟨rfl, rfl, rfl, by decide +kernel, rfl, by decide +kernel, by decide +kernel⟩
abbrev s_m_found : Stmt := inClass (top 52) 4
abbrev N_m_found : List Str := ["self", "name", "parent"]
theorem sc_m_found : FnScope N_m_found ["self", "name", "parent"] (defScope s_m_found) := ⟨rfl, rfl, rfl, by decide +kernel, rfl, by decide +kernel, by decide +kernel⟩
abbrev s_m_speak : Stmt := inClass (top 52) 5
abbrev N_m_speak : List Str := ["self", "speech"]
theorem sc_m_speak : FnScope N_m_speak ["self", "speech"] (defScope s_m_speak) := ⟨rfl, rfl, rfl, by decide +kernel, rfl, by decide +kernel, by decide +kernel⟩
abbrev s_m_undo : Stmt := inClass (top 52) 6
abbrev N_m_undo : List Str := ["self"]
theorem sc_m_undo : FnScope N_m_undo ["self"] (defScope s_m_undo) := ⟨rfl, rfl, rfl, by decide +kernel, rfl, by decide +kernel, by decide +kernel⟩
abbrev s_m_family : Stmt := inClass (top 52) 7
abbrev N_m_family : List Str := ["self"]
theorem sc_m_family : FnScope N_m_family ["self"] (defScope s_m_family) := ⟨rfl, rfl, rfl, by decide +kernel, rfl, by decide +kernel, by decide +kernel⟩
abbrev s_m_speech : Stmt := inClass (top 52) 8
abbrev N_m_speech : List Str := ["self"]
theorem sc_m_speech : FnScope N_m_speech ["self"] (defScope s_m_speech) := ⟨rfl, rfl, rfl, by decide +kernel, rfl, by decide +kernel, by decide +kernel⟩
abbrev s_m_twin : Stmt := inClass (top 52) 12
abbrev N_m_twin : List Str := ["self", "house"]
theorem sc_m_twin : FnScope N_m_twin ["self"] (defScope s_m_twin) := ⟨rfl, rfl, rfl, by decide +kernel, rfl, by decide +kernel, by decide +kernel⟩
structure TxtH (K : PySem.W.Frag) (mg : Str → Option Value) extends Txt K mg where
  cH : Addr
  g_House : mg "House" = some (.ref cH)
  cl : Cls K cH
  n_family : NoAttr K cH "_family"
  n_speech : NoAttr K cH "_speech"
  n_past : NoAttr K cH "_past"
  a_m_init : Addr
  f_m_init : FuncData
  F_m_init : Fun K "__init__" "House.__init__" s_m_init a_m_init f_m_init
  b_m_init : Binds K f_m_init ["self", "speech"] []
  h_m_init : Meth K cH "__init__" a_m_init
  a_m_len : Addr
  f_m_len : FuncData
  F_m_len : Fun K "__len__" "House.__len__" s_m_len a_m_len f_m_len
  b_m_len : Binds K f_m_len ["self"] []
  h_m_len : Meth K cH "__len__" a_m_len
  a_m_become : Addr
  f_m_become : FuncData
  F_m_become : Fun K "_become" "House._become" s_m_become a_m_become f_m_become
  b_m_become : Binds K f_m_become ["self", "family", "speech"] []
  h_m_become : Meth K cH "_become" a_m_become
  a_m_born : Addr
  f_m_born : FuncData
  F_m_born : FunD K "born" "House.born" (defArgs s_m_born) (defBody s_m_born) (defScope s_m_born) [.non, .non] [] a_m_born f_m_born
  b_m_born : Binds K f_m_born ["self", "name", "sex", "father", "mother"] []
  h_m_born : Meth K cH "born" a_m_born
  a_m_found : Addr
  f_m_found : FuncData
  F_m_found : Fun K "found" "House.found" s_m_found a_m_found f_m_found
  b_m_found : Binds K f_m_found ["self", "name", "parent"] []
  h_m_found : Meth K cH "found" a_m_found
  a_m_speak : Addr
  f_m_speak : FuncData
  F_m_speak : Fun K "speak" "House.speak" s_m_speak a_m_speak f_m_speak
  b_m_speak : Binds K f_m_speak ["self", "speech"] []
  h_m_speak : Meth K cH "speak" a_m_speak
  a_m_undo : Addr
  f_m_undo : FuncData
  F_m_undo : Fun K "undo" "House.undo" s_m_undo a_m_undo f_m_undo
  b_m_undo : Binds K f_m_undo ["self"] []
  h_m_undo : Meth K cH "undo" a_m_undo
  a_m_family : Addr
  f_m_family : FuncData
  F_m_family : Fun K "family" "House.family" s_m_family a_m_family f_m_family
  b_m_family : Binds K f_m_family ["self"] []
  h_m_family : Meth K cH "family" a_m_family
  a_m_speech : Addr
  f_m_speech : FuncData
  F_m_speech : Fun K "speech" "House.speech" s_m_speech a_m_speech f_m_speech
  b_m_speech : Binds K f_m_speech ["self"] []
  h_m_speech : Meth K cH "speech" a_m_speech
  a_m_twin : Addr
  f_m_twin : FuncData
  F_m_twin : Fun K "twin" "House.twin" s_m_twin a_m_twin f_m_twin
  b_m_twin : Binds K f_m_twin ["self"] []
  h_m_twin : Meth K cH "twin" a_m_twin
  mkH : L2.Mk K cH a_m_init
end K17

set_option maxHeartbeats 2000000
namespace K17
open PySem PySem.Spec PyProof.Rows L2 Kin
/-! ### the mathematics over data -/
def letC (c : Nat) : Bool := decide (c ∈ ("abcdefghijklmnopqrstuvwxyz" : Str).cps.toList)
def letD (m : Nat) : PyData → Bool
  | .str z => decide (z.length ≤ m) && z.cps.toList.all letC
  | _ => false
def nameD : PyData → Bool
  | .str z => letD 6 (.str z) && !decide (z = "")
  | _ => false
def sexD : PyData → Bool
  | .str z => decide (z = "he") || decide (z = "she")
  | _ => false
def numD (m : Int) : PyData → Bool
  | .int i => decide (0 ≤ i) && decide (i < m)
  | _ => false
section
variable {P : Program} {w : World} {K : PySem.W.Frag} {mg : Str → Option Value} {base : Heap}
def sp_is_letters : Sp := fun vs H Q _ => ∃ (x : V) (d : PyData) (m : Nat), vs = [x, .int (m : Nat)] ∧ Td true H x d ∧ m ≤ 100 ∧ ∀ H', Same H H' → Q (.bl (letD m d)) H'
theorem ok_is_letters (T : Txt K mg) : FnOk P w K mg base CX0 1 T.a_is_letters T.f_is_letters ["thing", "most"] sp_is_letters := by
  refine T.d_is_letters.F.ok sc_is_letters (fun vs H Q E h => ?_) (fun cdv A outer s H vs Q E hr h => ?_)
  · obtain ⟨x, d, m, rfl, _⟩ := h
    rfl
  · obtain ⟨x, d, m, rfl, td, hm, q⟩ := h
    refine ⟨_, (pss_cons (ps_if (PW.pt (pw_or (pt_not (pt_val (pe_callB call_isi (by rfl) T.n_isinstance boot_isinstance (pa_cons (pv 0) (pa_cons (pe_bltn (v := .ty "str") (by rfl) T.n_str b_str rfl) pa_nil))))) (pw_or1 (pt_cmpR op_gt (pe_callB call_len_str (by rfl) T.n_len boot_len (pa_cons (pv 0) pa_nil)) (pv 1) (nomark _)))))
        (pss_one (ps_ret pe_bl))
        pss_nil)
      (pss_one (ps_ret (pe_callB (cr_all rfl) (by rfl) T.n_all boot_all (pa_cons (pe_lc (own := [("sign", 2)]) (g := gName 2) (tt := tYes) rfl sc_is_letters.nd (pi_str (pv 0)) (blkOk_by (N := N_is_letters) (sc := defScope s_is_letters) (by decide +kernel)) (fun _ _ _ _ _ => pg_name (i := 2) sc_is_letters.nd rfl (Or.inl rfl)) (fun _ _ _ _ _ => pts_nil) (fun _ _ _ _ _ => (pe_cmpR op_in_sign (pv 2) (pe_gS rfl T.g_LETTERS) (by rfl)))) pa_nil))))), ?_⟩
    obtain ⟨n, ty, kb, _⟩ := (td.ty (K := K)).ex
    refine ⟨x, rfl, x, .ty "str", .type n, .type "str", _, rfl, .ty "str", ty, kit_ty kb, _, rfl, ?_⟩
    cases td with
    | @str z hz =>
      refine iteF ?_
      refine ⟨_, rfl, z, rfl, Nat.le_of_lt (small1000 hz), _, rfl, _, _, rfl, rfl, _, rfl, ?_⟩
      by_cases hl : z.length ≤ m
      · rw [decide_eq_false (by omega)]
        refine iteF ?_
        refine ⟨_, rfl, z, rfl, fun D nD => ?_⟩
        refine lc_itY (walk_str (z := z)) (fun i H' => H' = upd H D (.lst ((z.cps.toList.take i).map fun c => V.bl (letC c)))) ?_ (fun _ _ _ _ => trivial) ?_ ?_
        · rfl
        · rintro i v H1 H2 hi rfl ⟨rfl, c, hc, rfl⟩
          refine ⟨rfl, ?_⟩
          refine ⟨_, rfl, c, _, rfl, rfl, ?_⟩
          refine ⟨_, upd_same, ?_, ?_⟩
          · rw [List.length_map, List.length_take]
            exact Nat.lt_of_le_of_lt (Nat.min_le_left _ _) (small1000 (by have : z.length = z.cps.size := rfl; omega))
          · rw [upd_upd, List.take_add_one]
            have : z.cps.toList[i]? = some c := by simpa using hc
            rw [this, List.map_append]
            rfl
        · rintro H' rfl
          refine ⟨D, z.cps.toList.map letC, rfl, .inl (.inl ?_), ?_⟩
          · rw [upd_same, List.map_map]
            congr 2
            rw [List.take_of_length_le (by simp)]
            rfl
          · have e : (z.cps.toList.map letC).all id = letD m (.str z) := by
              show _ = (decide (z.length ≤ m) && z.cps.toList.all letC)
              rw [decide_eq_true hl, Bool.true_and, List.all_map]
              rfl
            rw [e]
            exact q _ (same_upd nD)
      · rw [decide_eq_true (by omega)]
        refine iteT ?_
        have e : letD m (.str z) = false := by
          show (decide (z.length ≤ m) && z.cps.toList.all letC) = false
          rw [decide_eq_false hl, Bool.false_and]
        rw [e] at q
        exact q _ (Same.refl _)
    | _ => exact iteT (q _ (Same.refl _))
def sp_is_name : Sp := fun vs H Q _ => ∃ (x : V) (d : PyData), vs = [x] ∧ Td true H x d ∧ ∀ H', Same H H' → Q (.bl (nameD d)) H'
theorem ok_is_name (T : Txt K mg) : FnOk P w K mg base CX0 2 T.a_is_name T.f_is_name ["thing"] sp_is_name := by
  have G_is_letters : FnOk P w K mg base CX0 1 T.a_is_letters T.f_is_letters ["thing", "most"] sp_is_letters := ok_is_letters T
  refine T.d_is_name.F.ok sc_is_name (fun vs H Q E h => ?_) (fun cdv A outer s H vs Q E hr h => ?_)
  · obtain ⟨x, d, rfl, _⟩ := h
    rfl
  · obtain ⟨x, d, rfl, td, q⟩ := h
    refine ⟨_, (pss_one (ps_ret (pe_and (pe_call G_is_letters (hr.mono (by decide)) rfl T.d_is_letters.g T.d_is_letters.F.kp T.d_is_letters.b .nil pass0 (pa_cons (pv 0) (pa_cons (pe_gI rfl T.g_MOST_LETTERS) pa_nil))) (pe_one (pe_cmpR op_ne (pv 0) pe_str (nomark _)))))), ?_⟩
    refine ⟨x, rfl, x, d, 6, rfl, td, by decide, fun H1 s1 => ⟨_, rfl, ?_⟩⟩
    cases td with
    | @str z hz =>
      cases e : letD 6 (.str z) with
      | false =>
        refine iteF ?_
        have e' : nameD (.str z) = false := by show (letD 6 (.str z) && _) = false; rw [e]; rfl
        rw [e'] at q
        exact q _ s1
      | true =>
        refine iteT ?_
        refine ⟨_, rfl, rfl, ?_⟩
        have e' : nameD (.str z) = !decide (V.str z = V.str "") := by
          show (letD 6 (.str z) && !decide (z = "")) = _
          rw [e, Bool.true_and]
          simp
        rw [← e']
        exact q _ s1
    | _ => exact iteF (q _ s1)
def sp_is_sex : Sp := fun vs H Q _ => ∃ (x : V) (d : PyData), vs = [x] ∧ Td true H x d ∧ Q (.bl (sexD d)) H
theorem ok_is_sex (T : Txt K mg) : FnOk P w K mg base CX0 1 T.a_is_sex T.f_is_sex ["thing"] sp_is_sex := by
  refine T.d_is_sex.F.ok sc_is_sex (fun vs H Q E h => ?_) (fun cdv A outer s H vs Q E hr h => ?_)
  · obtain ⟨x, d, rfl, _⟩ := h
    rfl
  · obtain ⟨x, d, rfl, td, q⟩ := h
    refine ⟨_, (pss_one (ps_ret (pe_and (pe_callB call_isi (by rfl) T.n_isinstance boot_isinstance (pa_cons (pv 0) (pa_cons (pe_bltn (v := .ty "str") (by rfl) T.n_str b_str rfl) pa_nil))) (pe_one (pe_cmpR op_in_seq (pv 0) (pe_gR rfl T.g_SEXES) (by rfl)))))), ?_⟩
    obtain ⟨n, ty, kb, _⟩ := (td.ty (K := K)).ex
    refine ⟨x, rfl, x, .ty "str", .type n, .type "str", _, rfl, .ty "str", ty, kit_ty kb, _, rfl, ?_⟩
    cases td with
    | @str z hz =>
      refine iteT ?_
      refine ⟨_, rfl, T.aSEXES, _, rfl, .inr (T.q_SEXES _), rfl, rfl, ?_⟩
      have e : inV (.str z) [.str "he", .str "she"] = sexD (.str z) := by
        unfold inV sexD
        simp only [List.any_cons, List.any_nil, Bool.or_false, eqV]
        rw [show (("he" : Str) == z) = decide (z = "he") by rw [Bool.beq_comm]; rfl, show (("she" : Str) == z) = decide (z = "she") by rw [Bool.beq_comm]; rfl]
      rw [if_neg Bool.false_ne_true, e]
      exact q
    | _ => exact iteF q
def sp_is_word : Sp := fun vs H Q _ => ∃ (x : V) (d : PyData), vs = [x] ∧ Td true H x d ∧ ∀ H', Same H H' → Q (.bl (letD 8 d)) H'
theorem ok_is_word (T : Txt K mg) : FnOk P w K mg base CX0 2 T.a_is_word T.f_is_word ["thing"] sp_is_word := by
  have G_is_letters : FnOk P w K mg base CX0 1 T.a_is_letters T.f_is_letters ["thing", "most"] sp_is_letters := ok_is_letters T
  refine T.d_is_word.F.ok sc_is_word (fun vs H Q E h => ?_) (fun cdv A outer s H vs Q E hr h => ?_)
  · obtain ⟨x, d, rfl, _⟩ := h
    rfl
  · obtain ⟨x, d, rfl, td, q⟩ := h
    refine ⟨_, (pss_one (ps_ret (pe_call G_is_letters (hr.mono (by decide)) rfl T.d_is_letters.g T.d_is_letters.F.kp T.d_is_letters.b .nil pass0 (pa_cons (pv 0) (pa_cons (pe_gI rfl T.g_MOST_WORD) pa_nil))))), ?_⟩
    exact ⟨x, rfl, x, d, 8, rfl, td, by decide, fun H1 s1 => q _ s1⟩
def sp_is_number : Sp := fun vs H Q _ => ∃ (x : V) (d : PyData) (m : Int), vs = [x, .int m] ∧ Td true H x d ∧ Q (.bl (numD m d)) H
theorem ok_is_number (T : Txt K mg) : FnOk P w K mg base CX0 1 T.a_is_number T.f_is_number ["thing", "many"] sp_is_number := by
  refine T.d_is_number.F.ok sc_is_number (fun vs H Q E h => ?_) (fun cdv A outer s H vs Q E hr h => ?_)
  · obtain ⟨x, d, m, rfl, _⟩ := h
    rfl
  · obtain ⟨x, d, m, rfl, td, q⟩ := h
    refine ⟨_, (pss_cons (ps_if (PW.pt (pw_or (pt_not (pt_val (pe_callB call_isi (by rfl) T.n_isinstance boot_isinstance (pa_cons (pv 0) (pa_cons (pe_bltn (v := .ty "int") (by rfl) T.n_int b_int rfl) pa_nil))))) (pw_or1 (pt_val (pe_callB call_isi (by rfl) T.n_isinstance boot_isinstance (pa_cons (pv 0) (pa_cons (pe_bltn (v := .ty "bool") (by rfl) T.n_bool b_bool rfl) pa_nil)))))))
        (pss_one (ps_ret pe_bl))
        pss_nil)
      (pss_one (ps_ret (pe_chain op_le op_lt pe_int (pv 0) (pv 1))))), ?_⟩
    obtain ⟨n, ty, _, _, ki, kb⟩ := (td.ty (K := K)).ex
    refine ⟨x, rfl, x, .ty "int", .type n, .type "int", _, rfl, .ty "int", ty, kit_ty ki, _, rfl, ?_⟩
    cases td with
    | int i =>
      refine iteF ?_
      refine ⟨_, rfl, _, .ty "bool", .type n, .type "bool", _, rfl, .ty "bool", ty, kit_ty kb, _, rfl, ?_⟩
      refine iteF ?_
      refine ⟨_, rfl, _, _, rfl, rfl, _, rfl, ?_⟩
      have e : numD m (.int i) = (decide (0 ≤ i) && decide (i < m)) := rfl
      rw [e] at q
      by_cases h0 : 0 ≤ i
      · rw [decide_eq_true h0] at q ⊢
        refine iteT ?_
        exact ⟨_, rfl, _, _, rfl, rfl, q⟩
      · rw [decide_eq_false h0] at q ⊢
        exact iteF q
    | bl b =>
      refine iteF ?_
      refine ⟨_, rfl, _, .ty "bool", .type n, .type "bool", _, rfl, .ty "bool", ty, kit_ty kb, _, rfl, ?_⟩
      exact iteT q
    | _ => exact iteT q
/-! ### the refusers -/
def sp_need (g : PyData → Bool) (C : Addr) : Sp := fun vs H Q E => ∃ (x : V) (d : PyData), vs = [x] ∧ Td true H x d ∧ ∀ H', Same H H' → (g d = true → Q .non H') ∧ (g d = false → E (.ref C) none H')
theorem ok_need_sex (T : Txt K mg) : FnOk P w K mg base (L2.CX P w) 2 T.a_need_sex T.f_need_sex ["thing"] (sp_need sexD T.aX) := by
  have G_is_sex : FnOk P w K mg base CX0 1 T.a_is_sex T.f_is_sex ["thing"] sp_is_sex := ok_is_sex T
  refine T.d_need_sex.F.okX sc_need_sex (fun vs H Q E h => ?_) (fun cdv A outer s H vs Q E hr h => ?_)
  · obtain ⟨x, d, rfl, _⟩ := h
    rfl
  · obtain ⟨x, d, rfl, td, q⟩ := h
    refine ⟨_, (pss_one (ps_if (pt_not (pt_val (pe_call G_is_sex (hr.mono (by decide)) rfl T.d_is_sex.g T.d_is_sex.F.kp T.d_is_sex.b .nil pass0 (pa_cons (pv 0) pa_nil))))
        (pss_one (ps_raise rfl (takes_of rfl rfl rfl rfl) (pmk_own PySem.F.excBase_ValueError T.c_NoSex.x T.c_NoSex.g T.c_NoSex.k (raises_own T.c_NoSex.b T.c_NoSex.t) (by exact rfl))))
        pss_nil)), ?_⟩
    refine ⟨x, rfl, x, d, rfl, td, _, rfl, ?_⟩
    obtain ⟨q1, q2⟩ := q H (Same.refl _)
    cases e : sexD d with
    | true => exact iteF (q1 e)
    | false => exact iteT (q2 e)
end
end K17

set_option maxHeartbeats 4000000
namespace K17
open PySem PySem.Spec PyProof.Rows L2 Kin
def standD (m : Int) : PyData → Bool
  | .tuple (w :: ns) => decide (ns.length = 4) && letD 8 w && ns.all (numD m)
  | _ => false
def speechD : PyData → Bool
  | .tuple [he, she, .tuple ss] => decide (1 ≤ ss.length) && decide (ss.length ≤ 8) && numD (ss.length : Int) he && numD (ss.length : Int) she && ss.all (standD (ss.length : Int))
  | _ => false
section
variable {P : Program} {w : World} {K : PySem.W.Frag} {mg : Str → Option Value} {base : Heap}
def sp_is_stand : Sp := fun vs H Q _ => ∃ (x : V) (d : PyData) (m : Int), vs = [x, .int m] ∧ Td true H x d ∧ ∀ H', Same H H' → Q (.bl (standD m d)) H'
theorem ok_is_stand (T : Txt K mg) : FnOk P w K mg base CX0 3 T.a_is_stand T.f_is_stand ["thing", "many"] sp_is_stand := by
  have G_is_word : FnOk P w K mg base CX0 2 T.a_is_word T.f_is_word ["thing"] sp_is_word := ok_is_word T
  have G_is_number : FnOk P w K mg base CX0 1 T.a_is_number T.f_is_number ["thing", "many"] sp_is_number := ok_is_number T
  refine T.d_is_stand.F.ok sc_is_stand (fun vs H Q E h => ?_) (fun cdv A outer s H vs Q E hr h => ?_)
  · obtain ⟨x, d, m, rfl, _⟩ := h
    rfl
  · obtain ⟨x, d, m, rfl, td, q⟩ := h
    refine ⟨_, (pss_cons (ps_if (PW.pt (pw_or (pt_not (pt_val (pe_callB call_isi (by rfl) T.n_isinstance boot_isinstance (pa_cons (pv 0) (pa_cons (pe_bltn (v := .ty "tuple") (by rfl) T.n_tuple b_tuple rfl) pa_nil))))) (pw_or1 (pt_cmpR op_ne (pe_callB call_len_seq (by rfl) T.n_len boot_len (pa_cons (pv 0) pa_nil)) (pe_op op_add pe_int (pe_callB call_len_str (by rfl) T.n_len boot_len (pa_cons (pe_gS rfl T.g_STEPS) pa_nil))) (nomark _)))))
        (pss_one (ps_ret pe_bl))
        pss_nil)
      (pss_cons (ps_asg (pv 0) (pg_star rfl (pg_name (i := 2) sc_is_stand.nd rfl (Or.inl rfl)) (pg_name (i := 3) sc_is_stand.nd rfl (Or.inl rfl))))
      (pss_one (ps_ret (pe_and (pe_call G_is_word (hr.mono (by decide)) rfl T.d_is_word.g T.d_is_word.F.kp T.d_is_word.b .nil pass0 (pa_cons (pv 2) pa_nil)) (pe_one (pe_callB (cr_all rfl) (by rfl) T.n_all boot_all (pa_cons (pe_lc (own := [("number", 4)]) (g := gName 4) (tt := tYes) rfl sc_is_stand.nd (pi_list (pv 3)) (blkOk_by (N := N_is_stand) (sc := defScope s_is_stand) (by decide +kernel)) (fun _ _ _ _ _ => pg_name (i := 4) sc_is_stand.nd rfl (Or.inl rfl)) (fun _ _ _ _ _ => pts_nil) (fun _ _ _ _ _ => (pe_call G_is_number (hr.mono (by decide)) rfl T.d_is_number.g T.d_is_number.F.kp T.d_is_number.b .nil pass0 (pa_cons (pv 4) (pa_cons (pv 1) pa_nil))))) pa_nil)))))))), ?_⟩
    obtain ⟨n, ty, _, kt, _⟩ := (td.ty (K := K)).ex
    refine ⟨x, rfl, x, .ty "tuple", .type n, .type "tuple", _, rfl, .ty "tuple", ty, kit_ty kt, _, rfl, ?_⟩
    cases td with
    | @tup a xs ds e nx r =>
      refine iteF ?_
      have hl := r.length
      refine ⟨_, rfl, a, xs, rfl, .inr (.inl (.inl e)), _, rfl, by decide, _, _, rfl, rfl, rfl, _, rfl, ?_⟩
      refine ite2 (fun hc => ?_) (fun hc => ?_)
      · have h5 : ds.length ≠ 5 := fun z => by
          rw [hl, z] at hc
          exact absurd hc (by decide +kernel)
        have e5 : standD m (.tuple ds) = false := by
          cases ds with
          | nil => rfl
          | cons w ns =>
            show (decide (ns.length = 4) && letD 8 w && ns.all (numD m)) = false
            rw [decide_eq_false (fun z => h5 (by rw [List.length_cons, z])), Bool.false_and, Bool.false_and]
        rw [e5] at q
        exact q _ (Same.refl _)
      · have h5 : ds.length = 5 := by
          have hc' : ((xs.length : Nat) : Int) = 1 + ((("fmsd" : Str).length : Nat) : Int) := by simpa using hc
          have e4 : ("fmsd" : Str).length = 4 := by decide +kernel
          rw [e4] at hc'
          omega
        cases r with
        | nil => cases h5
        | @cons wv nsv wd nds tw tr =>
          have h4 : nds.length = 4 := by simpa using h5
          have h4v : nsv.length = 4 := by rw [tr.length, h4]
          have e5 : standD m (.tuple (wd :: nds)) = (letD 8 wd && nds.all (numD m)) := by
            show (decide (nds.length = 4) && letD 8 wd && nds.all (numD m)) = _
            rw [decide_eq_true h4, Bool.true_and]
          rw [e5] at q
          refine ⟨_, rfl, a, wv, nsv, rfl, .inl (.inl e), fun l nl => ?_⟩
          have s1 : Same H (upd H l (.lst nsv)) := same_upd nl
          have el : upd H l (.lst nsv) l = some (.lst nsv) := upd_same
          generalize upd H l (.lst nsv) = H1 at s1 el ⊢
          refine ⟨wv, rfl, wv, wd, rfl, tw.mono s1, fun H2 s2 => ⟨_, rfl, ?_⟩⟩
          have s12 := s1.trans s2
          cases ew : letD 8 wd with
          | false =>
            rw [ew] at q
            exact iteF (q _ s12)
          | true =>
            rw [ew] at q
            refine iteT ?_
            have hS : ∀ H', Same H2 H' → SqL K H' l nsv := fun H' s => .inl (.inl (s _ _ (s2 _ _ el)))
            refine ⟨_, rfl, l, rfl, ⟨_, hS _ (Same.refl _)⟩, fun D nD => ?_⟩
            refine lc_itY (walk_list (K := K) (a := l) (xs := nsv)) (fun i H' => Same H2 H' ∧ H' D = some (.lst ((nds.take i).map fun d => V.bl (numD m d)))) ?_ (fun i H' _ p => hS H' p.1) ?_ ?_
            · exact ⟨same_upd nD, upd_same⟩
            · rintro i v H3 H3' hi ⟨s3, e3⟩ ⟨rfl, ev⟩
              obtain ⟨d, ed, tdv⟩ := tr.get ev
              refine ⟨rfl, ?_⟩
              refine ⟨v, rfl, _, rfl, v, d, m, rfl, tdv.mono (s12.trans s3), ?_⟩
              refine ⟨_, e3, ?_, same_set s3 nD, ?_⟩
              · rw [List.length_map, List.length_take, sizeLine_eq]
                omega
              · rw [upd_same, List.take_add_one, ed, List.map_append]
                rfl
            · rintro H3 ⟨s3, e3⟩
              rw [List.take_of_length_le (by rw [h4, h4v]; exact Nat.le_refl _)] at e3
              refine ⟨D, nds.map (numD m), rfl, .inl (.inl ?_), ?_⟩
              · rw [e3, List.map_map]
                rfl
              · rw [List.all_map]
                exact q _ (s12.trans s3)
    | _ => exact iteT (q _ (Same.refl _))
def sp_is_speech : Sp := fun vs H Q _ => ∃ (x : V) (d : PyData), vs = [x] ∧ Td true H x d ∧ ∀ H', Same H H' → Q (.bl (speechD d)) H'
theorem speechD_len {ds : List PyData} (h : ds.length ≠ 3) : speechD (.tuple ds) = false :=
  match ds, h with
  | [], _ => rfl
  | [_], _ => rfl
  | [_, _], _ => rfl
  | [_, _, _], h => absurd rfl h
  | _ :: _ :: _ :: _ :: _, _ => by simp [speechD]
theorem ok_is_speech (T : Txt K mg) : FnOk P w K mg base CX0 4 T.a_is_speech T.f_is_speech ["thing"] sp_is_speech := by
  have G_is_stand : FnOk P w K mg base CX0 3 T.a_is_stand T.f_is_stand ["thing", "many"] sp_is_stand := ok_is_stand T
  have G_is_number : FnOk P w K mg base CX0 1 T.a_is_number T.f_is_number ["thing", "many"] sp_is_number := ok_is_number T
  refine T.d_is_speech.F.ok sc_is_speech (fun vs H Q E h => ?_) (fun cdv A outer s H vs Q E hr h => ?_)
  · obtain ⟨x, d, rfl, _⟩ := h
    rfl
  · obtain ⟨x, d, rfl, td, q⟩ := h
    refine ⟨_, (pss_cons (ps_if (PW.pt (pw_or (pt_not (pt_val (pe_callB call_isi (by rfl) T.n_isinstance boot_isinstance (pa_cons (pv 0) (pa_cons (pe_bltn (v := .ty "tuple") (by rfl) T.n_tuple b_tuple rfl) pa_nil))))) (pw_or1 (pt_cmpR op_ne (pe_callB call_len_seq (by rfl) T.n_len boot_len (pa_cons (pv 0) pa_nil)) pe_int (nomark _)))))
        (pss_one (ps_ret pe_bl))
        pss_nil)
      (pss_cons (ps_asg (pv 0) (pg_tup rfl (pgs_cons (pg_name (i := 2) sc_is_speech.nd rfl (Or.inl rfl)) (pgs_cons (pg_name (i := 3) sc_is_speech.nd rfl (Or.inl rfl)) (pgs_cons (pg_name (i := 4) sc_is_speech.nd rfl (Or.inl rfl)) pgs_nil)))))
      (pss_cons (ps_if (PW.pt (pw_or (pt_not (pt_val (pe_callB call_isi (by rfl) T.n_isinstance boot_isinstance (pa_cons (pv 4) (pa_cons (pe_bltn (v := .ty "tuple") (by rfl) T.n_tuple b_tuple rfl) pa_nil))))) (pw_or1 (pt_not (pt_chain op_le op_le pe_int (pe_callB call_len_seq (by rfl) T.n_len boot_len (pa_cons (pv 4) pa_nil)) (pe_gI rfl T.g_MOST_STANDS))))))
        (pss_one (ps_ret pe_bl))
        pss_nil)
      (pss_cons (ps_set (i := 1) sc_is_speech.nd rfl (Or.inr rfl) (pe_callB call_len_seq (by rfl) T.n_len boot_len (pa_cons (pv 4) pa_nil)))
      (pss_cons (ps_if (PW.pt (pw_or (pt_not (pt_val (pe_call G_is_number (hr.mono (by decide)) rfl T.d_is_number.g T.d_is_number.F.kp T.d_is_number.b .nil pass0 (pa_cons (pv 2) (pa_cons (pv 1) pa_nil))))) (pw_or1 (pt_not (pt_val (pe_call G_is_number (hr.mono (by decide)) rfl T.d_is_number.g T.d_is_number.F.kp T.d_is_number.b .nil pass0 (pa_cons (pv 3) (pa_cons (pv 1) pa_nil))))))))
        (pss_one (ps_ret pe_bl))
        pss_nil)
      (pss_one (ps_ret (pe_callB (cr_all rfl) (by rfl) T.n_all boot_all (pa_cons (pe_lc (own := [("stand", 5)]) (g := gName 5) (tt := tYes) rfl sc_is_speech.nd (pi_tup (pv 4)) (blkOk_by (N := N_is_speech) (sc := defScope s_is_speech) (by decide +kernel)) (fun _ _ _ _ _ => pg_name (i := 5) sc_is_speech.nd rfl (Or.inl rfl)) (fun _ _ _ _ _ => pts_nil) (fun _ _ _ _ _ => (pe_call G_is_stand (hr.mono (by decide)) rfl T.d_is_stand.g T.d_is_stand.F.kp T.d_is_stand.b .nil pass0 (pa_cons (pv 5) (pa_cons (pv 1) pa_nil))))) pa_nil))))))))), ?_⟩
    obtain ⟨n, ty, _, kt, _⟩ := (td.ty (K := K)).ex
    refine ⟨x, rfl, x, .ty "tuple", .type n, .type "tuple", _, rfl, .ty "tuple", ty, kit_ty kt, _, rfl, ?_⟩
    cases td with
    | @tup a xs ds e nx r =>
      refine iteF ?_
      have hl := r.length
      refine ⟨_, rfl, a, xs, rfl, .inr (.inl (.inl e)), rfl, _, rfl, ?_⟩
      refine ite2 (fun hc => ?_) (fun hc => ?_)
      · have h5 : ds.length ≠ 3 := fun z => by
          rw [hl, z] at hc
          exact absurd hc (by decide +kernel)
        rw [speechD_len h5] at q
        exact q _ (Same.refl _)
      · have h5 : xs.length = 3 := by
          have hc' : ((xs.length : Nat) : Int) = 3 := by simpa using hc
          omega
        match xs, ds, r, h5, q with
        | [v1, v2, v3], [d1, d2, d3], .cons t1 (.cons t2 (.cons t3 .nil)), _, q =>
          refine ⟨_, rfl, a, _, rfl, .inl (.inl e), rfl, _, _, rfl, _, _, rfl, _, _, rfl, rfl, ?_⟩
          obtain ⟨n3, ty3, _, kt3, _⟩ := (t3.ty (K := K)).ex
          refine ⟨_, rfl, v3, .ty "tuple", .type n3, .type "tuple", _, rfl, .ty "tuple", ty3, kit_ty kt3, _, rfl, ?_⟩
          cases t3 with
          | @tup a3 xs3 ds3 e3 nx3 r3 =>
            have hl3 := r3.length
            have q : ∀ H', Same H H' → Q (.bl (decide (1 ≤ ds3.length) && decide (ds3.length ≤ 8) && numD (ds3.length : Int) d1 && numD (ds3.length : Int) d2 && ds3.all (standD (ds3.length : Int)))) H' := q
            refine iteF ?_
            refine ⟨_, rfl, a3, xs3, rfl, .inr (.inl (.inl e3)), ?_⟩
            rw [hl3]
            refine ⟨_, _, rfl, rfl, _, rfl, ?_⟩
            by_cases h1 : 1 ≤ ds3.length
            · rw [decide_eq_true h1] at q
              rw [decide_eq_true (show (1 : Int) ≤ ((ds3.length : Nat) : Int) by omega)]
              refine iteT ?_
              refine ⟨_, _, rfl, rfl, _, rfl, ?_⟩
              by_cases h8 : ds3.length ≤ 8
              · rw [decide_eq_true h8] at q
                rw [decide_eq_true (show ((ds3.length : Nat) : Int) ≤ 8 by omega)]
                refine iteF ?_
                refine ⟨_, rfl, a3, xs3, rfl, .inr (.inl (.inl e3)), ?_⟩
                rw [hl3]
                refine ⟨_, rfl, _, rfl, v1, d1, _, rfl, t1, _, rfl, ?_⟩
                cases n1 : numD ((ds3.length : Nat) : Int) d1 with
                | false =>
                  rw [n1] at q
                  exact iteT (q _ (Same.refl _))
                | true =>
                  rw [n1] at q
                  refine iteF ?_
                  refine ⟨_, rfl, _, rfl, v2, d2, _, rfl, t2, _, rfl, ?_⟩
                  cases n2 : numD ((ds3.length : Nat) : Int) d2 with
                  | false =>
                    rw [n2] at q
                    exact iteT (q _ (Same.refl _))
                  | true =>
                    rw [n2] at q
                    refine iteF ?_
                    have hS : ∀ H', Same H H' → SqT K H' a3 xs3 := fun H' s => .inl (.inl (s _ _ e3))
                    refine ⟨_, rfl, a3, rfl, ⟨_, hS _ (Same.refl _)⟩, fun D nD => ?_⟩
                    refine lc_itY (walk_tup (K := K) (a := a3) (xs := xs3)) (fun i H' => Same H H' ∧ H' D = some (.lst ((ds3.take i).map fun d => V.bl (standD (ds3.length : Int) d)))) ?_ (fun i H' _ p => hS H' p.1) ?_ ?_
                    · exact ⟨same_upd nD, upd_same⟩
                    · rintro i v H3 H3' hi ⟨s3, ed3⟩ ⟨rfl, ev⟩
                      obtain ⟨d, ed, tdv⟩ := r3.get ev
                      refine ⟨rfl, ?_⟩
                      refine ⟨v, rfl, _, rfl, v, d, _, rfl, tdv.mono s3, fun H4 s4 => ?_⟩
                      refine ⟨_, s4 _ _ ed3, ?_, same_set (s3.trans s4) nD, ?_⟩
                      · rw [List.length_map, List.length_take, sizeLine_eq]
                        omega
                      · rw [upd_same, List.take_add_one, ed, List.map_append]
                        rfl
                    · rintro H3 ⟨s3, ed3⟩
                      rw [List.take_of_length_le (by rw [hl3]; exact Nat.le_refl _)] at ed3
                      refine ⟨D, ds3.map (standD (ds3.length : Int)), rfl, .inl (.inl ?_), ?_⟩
                      · rw [ed3, List.map_map]
                        rfl
                      · rw [List.all_map]
                        exact q _ s3
              · rw [decide_eq_false h8] at q
                rw [decide_eq_false (show ¬ ((ds3.length : Nat) : Int) ≤ 8 by omega)]
                exact iteT (q _ (Same.refl _))
            · rw [decide_eq_false h1] at q
              rw [decide_eq_false (show ¬ (1 : Int) ≤ ((ds3.length : Nat) : Int) by omega)]
              refine iteF ?_
              exact ⟨_, rfl, iteT (q _ (Same.refl _))⟩
          | _ => exact iteT (q _ (Same.refl _))
    | _ => exact iteT (q _ (Same.refl _))
theorem ok_need_speech (T : Txt K mg) : FnOk P w K mg base (L2.CX P w) 5 T.a_need_speech T.f_need_speech ["thing"] (sp_need speechD T.aS) := by
  have G_is_speech : FnOk P w K mg base CX0 4 T.a_is_speech T.f_is_speech ["thing"] sp_is_speech := ok_is_speech T
  refine T.d_need_speech.F.okX sc_need_speech (fun vs H Q E h => ?_) (fun cdv A outer s H vs Q E hr h => ?_)
  · obtain ⟨x, d, rfl, _⟩ := h
    rfl
  · obtain ⟨x, d, rfl, td, q⟩ := h
    refine ⟨_, (pss_one (ps_if (pt_not (pt_val (pe_call G_is_speech (hr.mono (by decide)) rfl T.d_is_speech.g T.d_is_speech.F.kp T.d_is_speech.b .nil pass0 (pa_cons (pv 0) pa_nil))))
        (pss_one (ps_raise rfl (takes_of rfl rfl rfl rfl) (pmk_own PySem.F.excBase_ValueError T.c_NoSpeech.x T.c_NoSpeech.g T.c_NoSpeech.k (raises_own T.c_NoSpeech.b T.c_NoSpeech.t) (by exact rfl))))
        pss_nil)), ?_⟩
    refine ⟨x, rfl, x, d, rfl, td, fun H1 s1 => ⟨_, rfl, ?_⟩⟩
    obtain ⟨q1, q2⟩ := q H1 s1
    cases e : speechD d with
    | true => exact iteF (q1 e)
    | false => exact iteT (q2 e)
end
end K17

set_option maxHeartbeats 2000000
namespace K17
open PySem PySem.Spec PyProof.Rows L2 Kin
section
variable {P : Program} {w : World} {K : PySem.W.Frag} {mg : Str → Option Value} {base : Heap}
theorem mixed_small (x : Int) : (x % 2147483647).natAbs < 2 ^ 64 := by
  have h1 := Int.emod_nonneg x (b := 2147483647) (by decide)
  have h2 := Int.emod_lt_of_pos x (b := 2147483647) (by decide)
  omega
theorem ok_draw (T : Txt K mg) : FnOk P w K mg base CX0 1 T.a_law_draw T.f_law_draw ["_law_script", "_law_town", "_law_many"] (sp_draw K) := by
  refine T.d_law_draw.F.ok sc_law_draw (fun vs H Q E h => ?_) (fun cdv A outer s H vs Q E hr h => ?_)
  · obtain ⟨a, p, ns, m, rfl, _⟩ := h
    rfl
  · obtain ⟨a, p, ns, m, rfl, hB, hl, ⟨i, j, hi, hp⟩, m0, m1, q⟩ := h
    have hS : SqL K H a (ns.map V.int) := hB H (SameBut.refl p H)
    refine ⟨_, (pss_cons (ps_if (pt_cmpR op_gt (pe_ix ix_list (pv 1) pe_int (fun _ _ => rfl)) pe_int (nomark _))
        (pss_cons (ps_set (i := 5) sc_law_draw.nd rfl (Or.inl rfl) (pe_op op_mod (pe_ix ix_list (pv 1) pe_int (fun _ _ => rfl)) (pv 2)))
        (pss_cons (ps_asg (pe_op op_fdiv (pe_ix ix_list (pv 1) pe_int (fun _ _ => rfl)) (pv 2)) (pg_sub (pv 1) pe_int set_list))
        (pss_one (ps_ret (pv 5)))))
        pss_nil)
      (pss_cons (ps_set (i := 3) sc_law_draw.nd rfl (Or.inl rfl) (pe_ix ix_list (pv 1) pe_int (fun _ _ => rfl)))
      (pss_cons (ps_augS (pv 1) pe_int get_list pe_int ip_add set_list)
      (pss_cons (ps_if (pt_cmpR (op_eqD hr.units) (pv 0) (pe_lst pa_nil) (nomark _))
        (pss_one (ps_ret (pe_op op_mod (pv 3) (pv 2))))
        pss_nil)
      (pss_cons (ps_if (PW.pt (pw_and (pt_cmpR op_lt (pv 3) (pe_callB call_len_seq (by rfl) T.n_len boot_len (pa_cons (pv 0) pa_nil)) (nomark _)) (pw_and1 (pt_cmpR op_ge (pe_ix ix_list (pv 0) (pv 3) (fun _ _ => rfl)) (pe_op op_pow pe_int pe_int) (nomark _)))))
        (pss_cons (ps_asg (pe_op op_mod (pe_op op_fdiv (pe_ix ix_list (pv 0) (pv 3) (fun _ _ => rfl)) (pv 2)) (pe_op op_mulW (pe_op op_pow pe_int pe_int) (pe_op op_pow pe_int pe_int))) (pg_sub (pv 1) pe_int set_list))
        (pss_one (ps_ret (pe_op op_mod (pe_ix ix_list (pv 0) (pv 3) (fun _ _ => rfl)) (pv 2)))))
        pss_nil)
      (pss_cons (ps_set (i := 4) sc_law_draw.nd rfl (Or.inl rfl) (pe_op op_mod (pe_op op_add (pe_op op_add (pe_op op_mul (pe_ix ix_list (pv 0) (pe_op op_mod (pv 3) (pe_callB call_len_seq (by rfl) T.n_len boot_len (pa_cons (pv 0) pa_nil))) (fun _ _ => rfl)) pe_int) (pe_op op_mul pe_int (pv 3))) pe_int) pe_int))
      (pss_one (ps_ret (pe_op op_mod (pe_op op_mod (pe_op op_mod (pe_op op_pow (pv 4) pe_int) pe_int) pe_int) (pv 2)))))))))), ?_⟩
    have hL : SqL K H p [.int i, .int j] := .inl (.inl hp)
    have t1 : atI [V.int i, V.int j] 1 = some (V.int j) := rfl
    have t0 : atI [V.int i, V.int j] 0 = some (V.int i) := rfl
    have x1 : ixN [V.int i, V.int j].length 1 = some 1 := rfl
    have x0 : ixN [V.int i, V.int j].length 0 = some 0 := rfl
    refine ⟨_, rfl, p, _, 1, _, rfl, rfl, hL, t1, _, _, rfl, rfl, _, rfl, ?_⟩
    refine ite2 (fun _ => ?_) (fun _ => ?_)
    · -- what is left of a great one
      refine ⟨_, rfl, p, _, 1, _, rfl, rfl, hL, t1, _, rfl, _, _, rfl, rfl, m0, ?_⟩
      refine ⟨_, rfl, p, _, 1, _, rfl, rfl, hL, t1, _, rfl, _, _, rfl, rfl, ⟨m0, m1⟩, ?_⟩
      refine ⟨_, rfl, p, _, 1, 1, rfl, rfl, hp, x1, ?_⟩
      refine ⟨_, rfl, ?_⟩
      exact q _ _ (Int.emod_nonneg _ (by omega)) (Int.emod_lt_of_pos _ m0) ⟨i, _, hi, upd_same⟩ (SameBut.refl p H).upd
    · -- the next cell
      refine ⟨_, rfl, p, _, 0, _, rfl, rfl, hL, t0, ?_⟩
      refine ⟨_, rfl, p, _, 0, _, rfl, rfl, hL, by decide, rfl, i, 1, rfl, rfl, p, _, 0, 0, rfl, rfl, hp, x0, ?_⟩
      have hp1 : (upd H p (.lst ([V.int i, V.int j].set 0 (.int (i + 1))))) p = some (.lst [.int (i + 1), .int j]) := upd_same
      have b1 : SameBut p H (upd H p (.lst ([V.int i, V.int j].set 0 (.int (i + 1))))) := (SameBut.refl p H).upd
      generalize upd H p (.lst ([V.int i, V.int j].set 0 (.int (i + 1)))) = H1 at hp1 b1 ⊢
      have hS1 : SqL K H1 a (ns.map V.int) := hB _ b1
      -- script == []
      refine ⟨_, rfl, Nat.zero_le _, fun l nl => ?_⟩
      have nlp : p ≠ l := ne_of_none hp1 nl
      have b2 : SameBut p H (upd H1 l (.lst [])) := b1.lay nl
      have hp2 : (upd H1 l (.lst [])) p = some (.lst [.int (i + 1), .int j]) := by rw [upd_ne nlp]; exact hp1
      have hl2 : (upd H1 l (.lst [])) l = some (.lst []) := upd_same
      generalize upd H1 l (.lst []) = H2 at b2 hp2 hl2 ⊢
      have hS2 : SqL K H2 a (ns.map V.int) := hB _ b2
      have hL2 : SqL K H2 p [.int (i + 1), .int j] := .inl (.inl hp2)
      have x1' : ixN [V.int (i + 1), V.int j].length 1 = some 1 := rfl
      refine ⟨.list (ns.map PyData.int), .list [], .lst hS2 (dp_ints ns), .lst (.inl (.inl hl2)) .nil, shaped_ints ns, by decide +kernel, _, rfl, ?_⟩
      cases ns with
      | nil =>
        refine iteT ?_
        refine ⟨_, rfl, _, rfl, _, _, rfl, rfl, m0, ?_⟩
        exact q _ _ (Int.emod_nonneg _ (by omega)) (Int.emod_lt_of_pos _ m0) ⟨_, _, by omega, hp2⟩ b2
      | cons n0 ns0 =>
        refine iteF ?_
        generalize hns : n0 :: ns0 = ns at hl hS hS2 hS1 hB ⊢
        have hpos : 0 < ns.length := by rw [← hns]; exact Nat.succ_pos _
        clear hns
        have hlen : ((ns.map V.int).length : Int) = (ns.length : Int) := by rw [List.length_map]
        refine ⟨_, rfl, _, rfl, a, _, rfl, .inl hS2, _, _, rfl, rfl, _, rfl, ?_⟩
        have it : atI (ns.map V.int) (i % ((ns.map V.int).length : Int)) = some (.int (ns.getD (i % (ns.length : Int)).toNat 0)) := by
          have h1 := Int.emod_nonneg i (b := (ns.length : Int)) (by omega)
          have h2 := Int.emod_lt_of_pos i (b := (ns.length : Int)) (by omega)
          rw [hlen]
          refine at_of (j := (i % (ns.length : Int)).toNat) (by omega) ?_
          rw [List.getElem?_map, getD_some (l := ns) (d := 0) (by omega)]
          rfl
        show (if decide (i < ((ns.map V.int).length : Int)) = true then _ else _)
        by_cases c1 : i < ((ns.map V.int).length : Int)
        · rw [decide_eq_true c1]
          refine iteT ?_
          have it2 : atI (ns.map V.int) i = some (.int (ns.getD i.toNat 0)) := by
            refine at_of (j := i.toNat) (by omega) ?_
            rw [List.getElem?_map, getD_some (l := ns) (d := 0) (by omega)]
            rfl
          refine ⟨_, rfl, _, rfl, a, _, i, _, rfl, rfl, hS2, it2, _, _, rfl, rfl, ⟨by decide, by decide, by decide⟩, _, _, rfl, rfl, _, rfl, ?_⟩
          refine ite2 (fun _ => ?_) (fun _ => ?_)
          · refine ⟨_, rfl, _, rfl, a, _, i, _, rfl, rfl, hS2, it2, _, rfl, _, _, rfl, rfl, ⟨m0, m1⟩, _, _, rfl, rfl, ⟨by decide, by decide, by decide⟩, _, _, rfl, rfl, ⟨by decide, by decide, by decide⟩, ?_⟩
            refine ⟨_, _, rfl, rfl, wide_mul (a := 200) (b := 200) (by decide +kernel) (by decide +kernel) (by decide) (by decide) (by decide), _, _, rfl, rfl, (show (0 : Int) < 10 ^ Int.toNat 60 * 10 ^ Int.toNat 60 by decide +kernel), ?_⟩
            refine ⟨_, rfl, p, _, 1, 1, rfl, rfl, hp2, x1', ?_⟩
            refine ⟨_, rfl, _, rfl, a, _, i, _, rfl, rfl, hB _ b2.upd, it2, _, rfl, _, _, rfl, rfl, m0, ?_⟩
            exact q _ _ (Int.emod_nonneg _ (by omega)) (Int.emod_lt_of_pos _ m0) ⟨i + 1, _, by omega, upd_same⟩ b2.upd
          · refine ⟨_, rfl, _, rfl, _, rfl, a, _, rfl, .inl hS2, _, _, rfl, rfl, (by show (0 : Int) < ((ns.map V.int).length : Int); omega), a, _, _, _, rfl, rfl, hS2, it, ?_⟩
            refine ⟨_, _, rfl, rfl, .inr ⟨by decide, by decide⟩, _, rfl, _, _, rfl, rfl, .inl ⟨by decide, by decide⟩, _, _, rfl, rfl, _, _, rfl, rfl, _, _, rfl, rfl, (show (0 : Int) < 2147483647 by decide), ?_⟩
            refine ⟨_, rfl, _, _, rfl, rfl, ⟨by decide, by decide, mixed_small _⟩, _, _, rfl, rfl, (show (0 : Int) < 2147483647 by decide), _, _, rfl, rfl, (show (0 : Int) < 999983 by decide), _, rfl, _, _, rfl, rfl, m0, ?_⟩
            exact q _ _ (Int.emod_nonneg _ (by omega)) (Int.emod_lt_of_pos _ m0) ⟨_, _, by omega, hp2⟩ b2
        · rw [decide_eq_false c1]
          refine iteF ?_
          refine ⟨_, rfl, _, rfl, _, rfl, a, _, rfl, .inl hS2, _, _, rfl, rfl, (by show (0 : Int) < ((ns.map V.int).length : Int); omega), a, _, _, _, rfl, rfl, hS2, it, ?_⟩
          refine ⟨_, _, rfl, rfl, .inr ⟨by decide, by decide⟩, _, rfl, _, _, rfl, rfl, .inl ⟨by decide, by decide⟩, _, _, rfl, rfl, _, _, rfl, rfl, _, _, rfl, rfl, (show (0 : Int) < 2147483647 by decide), ?_⟩
          refine ⟨_, rfl, _, _, rfl, rfl, ⟨by decide, by decide, mixed_small _⟩, _, _, rfl, rfl, (show (0 : Int) < 2147483647 by decide), _, _, rfl, rfl, (show (0 : Int) < 999983 by decide), _, rfl, _, _, rfl, rfl, m0, ?_⟩
          exact q _ _ (Int.emod_nonneg _ (by omega)) (Int.emod_lt_of_pos _ m0) ⟨_, _, by omega, hp2⟩ b2
theorem ok_pick (T : Txt K mg) : FnOk P w K mg base CX0 2 T.a_law_pick T.f_law_pick ["_law_script", "_law_town", "_law_some"] (sp_pick K) := by
  have G_law_draw : FnOk P w K mg base CX0 1 T.a_law_draw T.f_law_draw ["_law_script", "_law_town", "_law_many"] (sp_draw K) := ok_draw T
  refine T.d_law_pick.F.ok sc_law_pick (fun vs H Q E h => ?_) (fun cdv A outer s H vs Q E hr h => ?_)
  · obtain ⟨a, p, l, ns, xs, rfl, _⟩ := h
    rfl
  · obtain ⟨a, p, l, ns, xs, rfl, hB, hl, ht, hX, nlp, nx, hx, q⟩ := h
    refine ⟨_, (pss_one (ps_ret (pe_ix ix_list (pv 2) (pe_call G_law_draw (hr.mono (by decide)) rfl T.d_law_draw.g T.d_law_draw.F.kp T.d_law_draw.b .nil pass0 (pa_cons (pv 0) (pa_cons (pv 1) (pa_cons (pe_callB call_len_seq (by rfl) T.n_len boot_len (pa_cons (pv 2) pa_nil)) pa_nil)))) (fun _ _ => rfl)))), ?_⟩
    have hpos : 0 < xs.length := List.length_pos_iff.mpr nx
    refine ⟨_, rfl, _, rfl, _, rfl, _, rfl, l, _, rfl, .inl hX, ?_⟩
    refine ⟨a, p, ns, _, rfl, hB, hl, ht, by omega, by omega, fun H' r r0 r1 ht' sb => ?_⟩
    have e : atI xs r = some (xs.getD r.toNat .non) := at_of (j := r.toNat) (by omega) (getD_some (by omega))
    refine ⟨l, xs, r, _, rfl, rfl, sb.seq nlp hX, e, ?_⟩
    refine q H' _ ?_ ht' sb
    exact List.mem_of_getElem? (getD_some (l := xs) (k := r.toNat) (d := .non) (by omega))
end
end K17

set_option maxHeartbeats 2000000
namespace K17
open PySem PySem.Spec PyProof.Rows L2 Kin
/-- the fourteen refusals, in the law's order -/
structure Cls (K : PySem.W.Frag) (mg : Str → Option Value) where
  c0 : Addr
  c1 : Addr
  c2 : Addr
  c3 : Addr
  c4 : Addr
  c5 : Addr
  c6 : Addr
  c7 : Addr
  c8 : Addr
  c9 : Addr
  c10 : Addr
  c11 : Addr
  c12 : Addr
  c13 : Addr
  g0 : mg "NoFamily" = some (.ref c0)
  g1 : mg "NotPlain" = some (.ref c1)
  g2 : mg "NoName" = some (.ref c2)
  g3 : mg "NoSex" = some (.ref c3)
  g4 : mg "NoRow" = some (.ref c4)
  g5 : mg "NoSpeech" = some (.ref c5)
  g6 : mg "NotSure" = some (.ref c6)
  g7 : mg "NoWord" = some (.ref c7)
  g8 : mg "TooMany" = some (.ref c8)
  g9 : mg "NoParent" = some (.ref c9)
  g10 : mg "Taken" = some (.ref c10)
  g11 : mg "Full" = some (.ref c11)
  g12 : mg "NoDeed" = some (.ref c12)
  g13 : mg "NoText" = some (.ref c13)
  n_ValueError : mg "ValueError" = none
/-- D is the j-th of them, and a ValueError -/
structure IsJ (K : PySem.W.Frag) (mg : Str → Option Value) (C : Cls K mg) (D : Addr) (j : Nat) : Prop where
  ex : ExcC K D
  lt : j < 14
  k0 : PySem.W.kitOne K (.ref D) (.ref C.c0) = some (decide (j = 0))
  k1 : PySem.W.kitOne K (.ref D) (.ref C.c1) = some (decide (j = 1))
  k2 : PySem.W.kitOne K (.ref D) (.ref C.c2) = some (decide (j = 2))
  k3 : PySem.W.kitOne K (.ref D) (.ref C.c3) = some (decide (j = 3))
  k4 : PySem.W.kitOne K (.ref D) (.ref C.c4) = some (decide (j = 4))
  k5 : PySem.W.kitOne K (.ref D) (.ref C.c5) = some (decide (j = 5))
  k6 : PySem.W.kitOne K (.ref D) (.ref C.c6) = some (decide (j = 6))
  k7 : PySem.W.kitOne K (.ref D) (.ref C.c7) = some (decide (j = 7))
  k8 : PySem.W.kitOne K (.ref D) (.ref C.c8) = some (decide (j = 8))
  k9 : PySem.W.kitOne K (.ref D) (.ref C.c9) = some (decide (j = 9))
  k10 : PySem.W.kitOne K (.ref D) (.ref C.c10) = some (decide (j = 10))
  k11 : PySem.W.kitOne K (.ref D) (.ref C.c11) = some (decide (j = 11))
  k12 : PySem.W.kitOne K (.ref D) (.ref C.c12) = some (decide (j = 12))
  k13 : PySem.W.kitOne K (.ref D) (.ref C.c13) = some (decide (j = 13))
  kv : PySem.W.kitOne K (.ref D) (.type "ValueError") = some true
def own (j : Nat) : List V := [.bl (decide (j = 0)), .bl (decide (j = 1)), .bl (decide (j = 2)), .bl (decide (j = 3)), .bl (decide (j = 4)), .bl (decide (j = 5)), .bl (decide (j = 6)), .bl (decide (j = 7)), .bl (decide (j = 8)), .bl (decide (j = 9)), .bl (decide (j = 10)),
  .bl (decide (j = 11)), .bl (decide (j = 12)), .bl (decide (j = 13))]
theorem own_flat (j : Nat) : (own j).all flatV = true := rfl
theorem own_count : ∀ j : _root_.Fin 14, ((own j.val).countP fun z => eqV z (.bl true)) = 1 := by decide +kernel
theorem own_at : ∀ j : _root_.Fin 14, (own j.val)[j.val]? = some (.bl true) := by decide +kernel
theorem own_ahead : ∀ j m : _root_.Fin 14, m < j → (own j.val)[m.val]? = some (.bl false) := by decide +kernel
/-- the exception is told by its number -/
def sp_which (K : PySem.W.Frag) (mg : Str → Option Value) (C : Cls K mg) : Addr → Value → Sp := fun a c vs H Q _ => ∃ (D : Addr) (j : Nat), c = .ref D ∧ IsJ K mg C D j ∧ vs = [.ref a] ∧ ∀ H' t, Same H H' → H t = none → H' t = some (.tup [.str "refused", .int (j : Nat)]) → Q (.ref t) H'
section
variable {P : Program} {w : World} {K : PySem.W.Frag} {mg : Str → Option Value} {base : Heap}
theorem ok_which {f : Addr} {fd : FuncData} (C : Cls K mg) (ni : mg "isinstance" = none) (d : Df K mg "_law_which" s_law_which ["_law_e"] f fd) : FnP P w K mg base 1 f fd ["_law_e"] (sp_which K mg C) := by
  refine fn_ofP d.F sc_law_which (fun a c vs H Q E h => ?_) (fun cdv A outer s H vs Q E p c hc hr h => ?_)
  · obtain ⟨_, _, _, _, rfl, _⟩ := h
    rfl
  · obtain ⟨D, j, rfl, J, rfl, q⟩ := h
    have hp : p ∈ (L2H.cxH CX0 P w K mg base N_law_which "_law_which" (defScope s_law_which) f cdv A outer s H E p).pn := List.mem_cons_self
    have ii := call_isP (X := L2H.cxH CX0 P w K mg base N_law_which "_law_which" (defScope s_law_which) f cdv A outer s H E p) (D := D) (p := p) J.ex hp hc
    refine ⟨_, (pss_cons (ps_set (i := 1) sc_law_which.nd rfl (Or.inl rfl) (pe_lst (pa_cons (pe_callB ii (by rfl) ni boot_isinstance (pa_cons (pv 0) (pa_cons (pe_gR rfl C.g0) pa_nil))) (pa_cons (pe_callB ii (by rfl) ni boot_isinstance (pa_cons (pv 0) (pa_cons (pe_gR rfl C.g1) pa_nil))) (pa_cons (pe_callB ii (by rfl) ni boot_isinstance (pa_cons (pv 0) (pa_cons (pe_gR rfl C.g2) pa_nil))) (pa_cons (pe_callB ii (by rfl) ni boot_isinstance (pa_cons (pv 0) (pa_cons (pe_gR rfl C.g3) pa_nil))) pa_nil))))))
      (pss_cons (ps_expr (pe_bm PySem.F.plainAttrs_list PySem.F.slot_list_extend PySem.F.type_list_extend mt_extend (pv 1) (pa_cons (pe_lst (pa_cons (pe_callB ii (by rfl) ni boot_isinstance (pa_cons (pv 0) (pa_cons (pe_gR rfl C.g4) pa_nil))) (pa_cons (pe_callB ii (by rfl) ni boot_isinstance (pa_cons (pv 0) (pa_cons (pe_gR rfl C.g5) pa_nil))) (pa_cons (pe_callB ii (by rfl) ni boot_isinstance (pa_cons (pv 0) (pa_cons (pe_gR rfl C.g6) pa_nil))) pa_nil)))) pa_nil)))
      (pss_cons (ps_expr (pe_bm PySem.F.plainAttrs_list PySem.F.slot_list_extend PySem.F.type_list_extend mt_extend (pv 1) (pa_cons (pe_lst (pa_cons (pe_callB ii (by rfl) ni boot_isinstance (pa_cons (pv 0) (pa_cons (pe_gR rfl C.g7) pa_nil))) pa_nil)) pa_nil)))
      (pss_cons (ps_expr (pe_bm PySem.F.plainAttrs_list PySem.F.slot_list_extend PySem.F.type_list_extend mt_extend (pv 1) (pa_cons (pe_lst (pa_cons (pe_callB ii (by rfl) ni boot_isinstance (pa_cons (pv 0) (pa_cons (pe_gR rfl C.g8) pa_nil))) (pa_cons (pe_callB ii (by rfl) ni boot_isinstance (pa_cons (pv 0) (pa_cons (pe_gR rfl C.g9) pa_nil))) (pa_cons (pe_callB ii (by rfl) ni boot_isinstance (pa_cons (pv 0) (pa_cons (pe_gR rfl C.g10) pa_nil))) pa_nil)))) pa_nil)))
      (pss_cons (ps_expr (pe_bm PySem.F.plainAttrs_list PySem.F.slot_list_extend PySem.F.type_list_extend mt_extend (pv 1) (pa_cons (pe_lst (pa_cons (pe_callB ii (by rfl) ni boot_isinstance (pa_cons (pv 0) (pa_cons (pe_gR rfl C.g11) pa_nil))) pa_nil)) pa_nil)))
      (pss_cons (ps_expr (pe_bm PySem.F.plainAttrs_list PySem.F.slot_list_extend PySem.F.type_list_extend mt_extend (pv 1) (pa_cons (pe_lst (pa_cons (pe_callB ii (by rfl) ni boot_isinstance (pa_cons (pv 0) (pa_cons (pe_gR rfl C.g12) pa_nil))) (pa_cons (pe_callB ii (by rfl) ni boot_isinstance (pa_cons (pv 0) (pa_cons (pe_gR rfl C.g13) pa_nil))) pa_nil))) pa_nil)))
      (pss_cons (ps_if (PW.pt (pw_or (pt_cmpR op_ne (pe_bm PySem.F.plainAttrs_list PySem.F.slot_list_count PySem.F.type_list_count mt_countF (pv 1) (pa_cons pe_bl pa_nil)) pe_int (nomark _)) (pw_or1 (pt_not (pt_val (pe_callB ii (by rfl) ni boot_isinstance (pa_cons (pv 0) (pa_cons (pe_bltn (v := .ty "ValueError") (by rfl) C.n_ValueError b_ValueError rfl) pa_nil))))))))
        (pss_one (ps_ret (pe_tup (pa_cons pe_str (pa_cons (pe_un un_neg pe_int) pa_nil)))))
        pss_nil)
      (pss_one (ps_ret (pe_tup (pa_cons pe_str (pa_cons (pe_bm PySem.F.plainAttrs_list PySem.F.slot_list_index PySem.F.type_list_index mt_index (pv 1) (pa_cons pe_bl pa_nil)) pa_nil)))))))))))), ?_⟩
    have rr : ∀ {a : Addr} (u : Value), L2.RelV (V.ref a) u → u = Value.ref a := fun _ r => r
    refine ⟨_, rfl, _, _, _, rfl, rr, J.k0, _, rfl, _, _, _, rfl, rr, J.k1, _, rfl, _, _, _, rfl, rr, J.k2, _, rfl, _, _, _, rfl, rr, J.k3, (by show 4 ≤ sizeLine; decide), fun l nl => ?_⟩
    have e0 : (upd H l (.lst [.bl (decide (j = 0)), .bl (decide (j = 1)), .bl (decide (j = 2)), .bl (decide (j = 3))])) l = some (.lst [.bl (decide (j = 0)), .bl (decide (j = 1)), .bl (decide (j = 2)), .bl (decide (j = 3))]) := upd_same
    have s0 : Same H (upd H l (.lst [.bl (decide (j = 0)), .bl (decide (j = 1)), .bl (decide (j = 2)), .bl (decide (j = 3))])) := same_upd nl
    refine ⟨_, rfl, .inl ⟨rfl, _, .inl (.inl e0)⟩, _, rfl, _, _, _, rfl, rr, J.k4, _, rfl, _, _, _, rfl, rr, J.k5, _, rfl, _, _, _, rfl, rr, J.k6, (by show 3 ≤ sizeLine; decide), fun b1 n1 => ?_⟩
    dsimp only [tNil]
    refine ext_step s0 nl e0 n1 ?_ fun H1 s1 e1 => ?_
    · show 4 + 3 ≤ sizeLine
      decide
    refine ⟨_, rfl, .inl ⟨rfl, _, .inl (.inl e1)⟩, _, rfl, _, _, _, rfl, rr, J.k7, (by show 1 ≤ sizeLine; decide), fun b2 n2 => ?_⟩
    dsimp only [tNil]
    refine ext_step s1 nl e1 n2 ?_ fun H2 s2 e2 => ?_
    · show 7 + 1 ≤ sizeLine
      decide
    refine ⟨_, rfl, .inl ⟨rfl, _, .inl (.inl e2)⟩, _, rfl, _, _, _, rfl, rr, J.k8, _, rfl, _, _, _, rfl, rr, J.k9, _, rfl, _, _, _, rfl, rr, J.k10, (by show 3 ≤ sizeLine; decide), fun b3 n3 => ?_⟩
    dsimp only [tNil]
    refine ext_step s2 nl e2 n3 ?_ fun H3 s3 e3 => ?_
    · show 8 + 3 ≤ sizeLine
      decide
    refine ⟨_, rfl, .inl ⟨rfl, _, .inl (.inl e3)⟩, _, rfl, _, _, _, rfl, rr, J.k11, (by show 1 ≤ sizeLine; decide), fun b4 n4 => ?_⟩
    dsimp only [tNil]
    refine ext_step s3 nl e3 n4 ?_ fun H4 s4 e4 => ?_
    · show 11 + 1 ≤ sizeLine
      decide
    refine ⟨_, rfl, .inl ⟨rfl, _, .inl (.inl e4)⟩, _, rfl, _, _, _, rfl, rr, J.k12, _, rfl, _, _, _, rfl, rr, J.k13, (by show 2 ≤ sizeLine; decide), fun b5 n5 => ?_⟩
    dsimp only [tNil]
    refine ext_step s4 nl e4 n5 ?_ fun H5 s5 e5 => ?_
    · show 12 + 2 ≤ sizeLine
      decide
    have e6 : H5 l = some (.lst (own j)) := e5
    have hL : SqL K H5 l (own j) := .inl (.inl e6)
    refine ⟨_, rfl, .inl ⟨rfl, _, hL⟩, l, _, _, rfl, rfl, hL, rfl, own_flat j, rfl, ?_⟩
    have hc1 := own_count ⟨j, J.lt⟩
    rw [hc1]
    refine ⟨_, rfl, ?_⟩
    refine iteF ?_
    refine ⟨_, rfl, _, _, _, rfl, (fun _ r => r), J.kv, _, rfl, ?_⟩
    refine iteF ?_
    refine ⟨_, rfl, .inl ⟨rfl, _, hL⟩, l, _, _, j, .bl true, rfl, rfl, hL, rfl, own_flat j, own_at ⟨j, J.lt⟩, rfl, fun m z hm hz => ?_, (by show 2 ≤ sizeLine; decide), fun t nt => ?_⟩
    · have := own_ahead ⟨j, J.lt⟩ ⟨m, Nat.lt_trans hm J.lt⟩ hm
      rw [this] at hz
      cases hz
      rfl
    · exact q _ t (s5.trans (same_upd nt)) (s5.free nt) upd_same
end
end K17

set_option maxHeartbeats 8000000
namespace K17
open PySem PySem.Spec PyProof.Rows L2 Kin
def sexC (b : Bool) : Str := if b then "he" else "she"
structure Per where
  name : Str
  he : Bool
  fa : Option Str
  mo : Option Str
def optV : Option Str → V
  | none => .non
  | some z => .str z
def perV (p : Per) : List V := [.str p.name, .str (sexC p.he), optV p.fa, optV p.mo]
structure FamAt (H : Hp) (x : V) (ps : List Per) : Prop where
  ex : ∃ (f : Addr) (Ts : List Addr), x = .ref f ∧ H f = some (.tup (Ts.map V.ref)) ∧ Ts.length = ps.length ∧ ∀ (j : Nat) (T : Addr), Ts[j]? = some T → ∃ p, ps[j]? = some p ∧ H T = some (.tup (perV p))
theorem FamAt.mono {H H' : Hp} {x : V} {ps : List Per} (f : FamAt H x ps) (s : Same H H') : FamAt H' x ps := by
  obtain ⟨a, Ts, h1, h2, h3, h4⟩ := f
  exact ⟨a, Ts, h1, s _ _ h2, h3, fun j T e => let ⟨p, e1, e2⟩ := h4 j T e; ⟨p, e1, s _ _ e2⟩⟩
def kvOf (ps : List Per) : List (Key × V) := ps.map fun p => (Sum.inr p.name, V.str (sexC p.he))
structure PerOk (E : List Per) (p : Per) : Prop where
  nm : nameD (.str p.name) = true
  ln : p.name.length ≤ 1000
  new : valV (kvOf E) (Sum.inr p.name : Key) = none
  fa : ∀ z, p.fa = some z → nameD (.str z) = true ∧ z.length ≤ 1000 ∧ valV (kvOf E) (Sum.inr z : Key) = some (.str "he")
  mo : ∀ z, p.mo = some z → nameD (.str z) = true ∧ z.length ≤ 1000 ∧ valV (kvOf E) (Sum.inr z : Key) = some (.str "she")
structure FamOk (ps : List Per) : Prop where
  pos : 1 ≤ ps.length
  most : ps.length ≤ 40
  per : ∀ (i : Nat) (p : Per), ps[i]? = some p → PerOk (ps.take i) p
theorem td_sex {L : Bool} {H : Hp} {b : Bool} : Td L H (.str (sexC b)) (.str (sexC b)) := .str (by cases b <;> decide +kernel)
theorem sexD_sexC (b : Bool) : sexD (.str (sexC b)) = true := by cases b <;> decide +kernel
section
variable {P : Program} {w : World} {K : PySem.W.Frag} {mg : Str → Option Value} {base : Heap}
/-- need_name: of a family -/
def namesD (ps : List Per) : PyData → Bool
  | .str z => ps.any fun p => decide (p.name = z)
  | _ => false
def sp_need_name (C : Addr) : Sp := fun vs H Q E => ∃ (x y : V) (ps : List Per) (d : PyData), vs = [x, y] ∧ FamAt H x ps ∧ ps.length ≤ 40 ∧ Td true H y d ∧ ∀ H', Same H H' → (namesD ps d = true → Q .non H') ∧ (namesD ps d = false → E (.ref C) none H')
theorem ok_need_name (T : Txt K mg) : FnOk P w K mg base (L2.CX P w) 1 T.a_need_name T.f_need_name ["family", "thing"] (sp_need_name T.aN) := by
  refine T.d_need_name.F.okX sc_need_name (fun vs H Q E h => ?_) (fun cdv A outer s H vs Q E hr h => ?_)
  · obtain ⟨x, y, _, _, rfl, _⟩ := h
    rfl
  · obtain ⟨x, y, ps, d, rfl, fam, h40, td, q⟩ := h
    refine ⟨_, (pss_one (ps_if (PW.pt (pw_or (pt_not (pt_val (pe_callB call_isi (by rfl) T.n_isinstance boot_isinstance (pa_cons (pv 1) (pa_cons (pe_bltn (v := .ty "str") (by rfl) T.n_str b_str rfl) pa_nil))))) (pw_or1 (pt_cmpR op_notIn_seq (pv 1) (pe_lc (own := [("person", 2)]) (g := gName 2) (tt := tYes) rfl sc_need_name.nd (pi_tup (pv 0)) (blkOk_by (N := N_need_name) (sc := defScope s_need_name) (by decide +kernel)) (fun _ _ _ _ _ => pg_name (i := 2) sc_need_name.nd rfl (Or.inl rfl)) (fun _ _ _ _ _ => pts_nil) (fun _ _ _ _ _ => (pe_ix (r := rIxT K) ix_tup (pv 2) pe_int (fun _ _ => rfl)))) (by rfl)))))
        (pss_one (ps_raise rfl (takes_of rfl rfl rfl rfl) (pmk_own PySem.F.excBase_ValueError T.c_NoName.x T.c_NoName.g T.c_NoName.k (raises_own T.c_NoName.b T.c_NoName.t) (by exact rfl))))
        pss_nil)), ?_⟩
    obtain ⟨n, ty, ks, _⟩ := (td.ty (K := K)).ex
    refine ⟨y, rfl, y, .ty "str", .type n, .type "str", _, rfl, .ty "str", ty, kit_ty ks, _, rfl, ?_⟩
    obtain ⟨f, Ts, rfl, ef, hl, hrow⟩ := fam
    cases td with
    | @str z hz =>
      refine iteF ?_
      have hS : ∀ H', Same H H' → SqT K H' f (Ts.map V.ref) := fun H' s => .inl (.inl (s _ _ ef))
      refine ⟨_, rfl, _, rfl, f, rfl, ⟨_, hS _ (Same.refl _)⟩, fun D nD => ?_⟩
      refine lc_itY (walk_tup (K := K) (a := f) (xs := Ts.map V.ref)) (fun i H' => Same H H' ∧ H' D = some (.lst ((ps.take i).map fun p => V.str p.name))) ?_ (fun i H' _ p => hS H' p.1) ?_ ?_
      · exact ⟨same_upd nD, upd_same⟩
      · rintro i v H3 H3' hi ⟨s3, e3⟩ ⟨rfl, ev⟩
        rw [List.getElem?_map] at ev
        cases hT : Ts[i]? with
        | none => rw [hT] at ev; cases ev
        | some Tp =>
          rw [hT] at ev
          cases (Option.some.inj ev)
          obtain ⟨p, hp1, hp2⟩ := hrow i Tp hT
          refine ⟨rfl, ?_⟩
          refine ⟨_, rfl, Tp, _, 0, _, rfl, rfl, .inl (.inl (s3 _ _ hp2)), rfl, ?_⟩
          refine ⟨_, e3, ?_, same_set s3 nD, ?_⟩
          · rw [List.length_map, List.length_take, sizeLine_eq]
            omega
          · rw [upd_same, List.take_add_one, hp1, List.map_append]
            rfl
      · rintro H3 ⟨s3, e3⟩
        rw [List.take_of_length_le (by rw [List.length_map, hl]; exact Nat.le_refl _)] at e3
        refine ⟨D, _, rfl, .inl (.inl (.inl e3)), rfl, ?_, ?_⟩
        · rw [List.all_map]
          exact List.all_eq_true.mpr fun _ _ => rfl
        · have e : inV (.str z) (ps.map fun p => V.str p.name) = namesD ps (.str z) := by
            unfold inV namesD
            rw [List.any_map]
            congr 1
          obtain ⟨q1, q2⟩ := q H3 s3
          rw [if_pos rfl, e]
          refine ⟨_, rfl, ?_⟩
          cases en : namesD ps (.str z) with
          | true => exact iteF (q1 en)
          | false => exact iteT (q2 en)
    | _ => exact iteT ((q H (Same.refl _)).2 rfl)
end
end K17

set_option maxHeartbeats 8000000
namespace K17
open PySem PySem.Spec PyProof.Rows L2 Kin
theorem town_set {H : Hp} {p q : Addr} {o : HO} (t : TownAt H p) (n : q ≠ p) : TownAt (upd H q o) p := by
  obtain ⟨i, j, h, e⟩ := t
  exact ⟨i, j, h, by rw [upd_ne (Ne.symm n)]; exact e⟩
theorem town_ne {H : Hp} {p b : Addr} {xs : List V} (t : TownAt H p) (e : H b = some (.tup xs)) : b ≠ p := fun z => by
  obtain ⟨_, _, _, ep⟩ := t
  rw [z, ep] at e
  cases e
theorem town_new {H : Hp} {p b : Addr} (t : TownAt H p) (e : H b = none) : b ≠ p := fun z => by
  obtain ⟨_, _, _, ep⟩ := t
  rw [z, ep] at e
  cases e
theorem td_but {H H' : Hp} {p : Addr} {v : V} {d : PyData} (t : TownAt H p) (s : SameBut p H H') (h : Td false H v d) : Td false H' v d :=
  Td.move (fun l => l) (fun b _ e => s b _ (town_ne t e) e) (fun l => by cases l) d v h
theorem tdAll_but {H H' : Hp} {p : Addr} {v : List V} {d : List PyData} (t : TownAt H p) (s : SameBut p H H') (h : TdAll false H v d) : TdAll false H' v d :=
  Td.moveAll (fun l => l) (fun b _ e => s b _ (town_ne t e) e) (fun l => by cases l) d v h
theorem tdAll_tups {H H' : Hp} {v : List V} {d : List PyData} (s : ∀ b xs, H b = some (.tup xs) → H' b = some (.tup xs)) (h : TdAll false H v d) : TdAll false H' v d :=
  Td.moveAll (fun l => l) s (fun l => by cases l) d v h
theorem TdAll.snoc {L : Bool} {H : Hp} {v : V} {d : PyData} (h : Td L H v d) : ∀ {ds : List PyData} {vs : List V}, TdAll L H vs ds → TdAll L H (vs ++ [v]) (ds ++ [d])
  | [], _, r => by cases r; exact .cons h .nil
  | d' :: ds, _, r => by
    cases r with
    | cons h' r => exact .cons h' (TdAll.snoc h r)
theorem tdAll_ints {L : Bool} {H : Hp} : ∀ rs : List Int, TdAll L H (rs.map V.int) (rs.map PyData.int)
  | [] => .nil
  | r :: rs => .cons (.int r) (tdAll_ints rs)
section
variable {P : Program} {w : World} {K : PySem.W.Frag} {mg : Str → Option Value} {base : Heap}
def sp_law_speech (K : PySem.W.Frag) : Sp := fun vs H Q _ => ∃ (a p : Addr) (ns : List Int) (m : Nat), vs = [.ref a, .ref p, .int (m : Nat)] ∧ 1 ≤ m ∧ m ≤ 8 ∧ Stb K H p a (ns.map V.int) ∧ ns.length ≤ 63 ∧ TownAt H p ∧
  ∀ H' x d, Td false H' x d → speechD d = true → TownAt H' p → SameBut p H H' → Q x H'
theorem ok_law_speech (T : Txt K mg) : FnOk P w K mg base CX0 3 T.a_law_speech T.f_law_speech ["_law_script", "_law_town", "_law_many"] (sp_law_speech K) := by
  have G_law_pick : FnOk P w K mg base CX0 2 T.a_law_pick T.f_law_pick ["_law_script", "_law_town", "_law_some"] (sp_pick K) := ok_pick T
  have G_law_draw : FnOk P w K mg base CX0 1 T.a_law_draw T.f_law_draw ["_law_script", "_law_town", "_law_many"] (sp_draw K) := ok_draw T
  refine T.d_law_speech.F.ok sc_law_speech (fun vs H Q E h => ?_) (fun cdv A outer s H vs Q E hr h => ?_)
  · obtain ⟨a, p, ns, m, rfl, _⟩ := h
    rfl
  · obtain ⟨a, p, ns, m, rfl, hm1, hm8, hB, hlen, hT0, q⟩ := h
    refine ⟨_, (pss_cons (ps_set (i := 3) sc_law_speech.nd rfl (Or.inl rfl) (pe_lst pa_nil))
      (pss_cons (ps_for PassesOwn.never rfl (pi_range1 (by rfl) T.n_range (pa_cons (pv 2) pa_nil)) (pg_name (i := 4) sc_law_speech.nd rfl (Or.inl rfl))
        (pss_cons (ps_set (i := 5) sc_law_speech.nd rfl (Or.inl rfl) (pe_call G_law_pick (hr.mono (by decide)) rfl T.d_law_pick.g T.d_law_pick.F.kp T.d_law_pick.b .nil pass0 (pa_cons (pv 0) (pa_cons (pv 1) (pa_cons (pe_lst (pa_cons pe_str (pa_cons pe_str (pa_cons pe_str (pa_cons pe_str (pa_cons pe_str pa_nil)))))) pa_nil)))))
        (pss_one (ps_expr (pe_bm PySem.F.plainAttrs_list PySem.F.slot_list_append PySem.F.type_list_append mt_append (pv 3) (pa_cons (pe_op op_catT (pe_tup (pa_cons (pv 5) pa_nil)) (pe_callTy call_tuple_of (by rfl) T.n_tuple b_tuple (pa_cons (pe_lc (own := [("_law_step", 6)]) (g := gName 6) (tt := tYes) rfl sc_law_speech.nd (pi_str pe_str) (blkOk_by (N := N_law_speech) (sc := defScope s_law_speech) (by decide +kernel)) (fun _ _ _ _ _ => pg_name (i := 6) sc_law_speech.nd rfl (Or.inl rfl)) (fun _ _ _ _ _ => pts_nil) (fun _ _ _ _ _ => (pe_call G_law_draw (hr.mono (by decide)) rfl T.d_law_draw.g T.d_law_draw.F.kp T.d_law_draw.b .nil pass0 (pa_cons (pv 0) (pa_cons (pv 1) (pa_cons (pv 2) pa_nil)))))) pa_nil))) pa_nil))))))
      (pss_one (ps_ret (pe_tup (pa_cons (pe_call G_law_draw (hr.mono (by decide)) rfl T.d_law_draw.g T.d_law_draw.F.kp T.d_law_draw.b .nil pass0 (pa_cons (pv 0) (pa_cons (pv 1) (pa_cons (pv 2) pa_nil)))) (pa_cons (pe_call G_law_draw (hr.mono (by decide)) rfl T.d_law_draw.g T.d_law_draw.F.kp T.d_law_draw.b .nil pass0 (pa_cons (pv 0) (pa_cons (pv 1) (pa_cons (pv 2) pa_nil)))) (pa_cons (pe_callTy call_tuple_of (by rfl) T.n_tuple b_tuple (pa_cons (pv 3) pa_nil)) pa_nil)))))))), ?_⟩
    have h3 : (0 : Int) < (m : Int) := by omega
    refine ⟨Nat.zero_le _, fun D nD => ?_⟩
    have neD : D ≠ p := town_new hT0 nD
    refine ⟨_, rfl, _, rfl, by omega, by omega, ?_⟩
    refine for_range (lo := 0) (n := m) (fun i σ H1 => SameBut p H H1 ∧ TownAt H1 p ∧ ∃ (Ts : List V) (ds : List PyData), Ts.length = i ∧ H1 D = some (.lst Ts) ∧ TdAll false H1 Ts ds ∧ ds.all (standD (m : Int)) = true ∧
      ∃ x4 x5 : Option V, σ = [some (.ref a), some (.ref p), some (.int (m : Nat)), some (.ref D), x4, x5, none])
      ⟨(same_upd nD).but, hT0.but (same_upd nD), [], [], rfl, upd_same, .nil, rfl, _, _, rfl⟩ ?_ ?_
    · rintro i σ H1 hi ⟨bb, hT1, Ts, ds, hTs, eD, tds, hok, x4, x5, rfl⟩
      -- the word
      refine ⟨_, rfl, _, rfl, by show 5 ≤ sizeLine; decide, fun l nl => ?_⟩
      have c1 := same_upd (o := .lst [V.str "", V.str "ab", V.str "c", V.str "kin", V.str "x"]) nl
      refine ⟨a, p, l, ns, [V.str "", V.str "ab", V.str "c", V.str "kin", V.str "x"], rfl, hB.mono (bb.trans c1.but), hlen, hT1.but c1, .inl (.inl upd_same), town_new hT1 nl, List.cons_ne_nil _ _, by show 5 ≤ 1000; decide, fun H2 x hx hT2 b2 => ?_⟩
      have B2 : SameBut p H1 H2 := c1.but.trans b2
      have ox : ∃ z : Str, x = .str z ∧ z.length ≤ 1000 ∧ letD 8 (.str z) = true := by
        simp only [List.mem_cons, List.not_mem_nil, or_false] at hx
        rcases hx with rfl | rfl | rfl | rfl | rfl
        all_goals exact ⟨_, rfl, by decide +kernel, by decide +kernel⟩
      obtain ⟨z, rfl, hz, hzl⟩ := ox
      -- its numbers
      have eD2 := B2 _ _ neD eD
      refine ⟨_, rfl, .inl ⟨rfl, _, .inl (.inl eD2)⟩, _, rfl, by show 1 ≤ sizeLine; decide, fun t1 n1 => ?_⟩
      have c3 := same_upd (o := .tup [V.str z]) n1
      have e1 : upd H2 t1 (.tup [V.str z]) t1 = some (.tup [V.str z]) := upd_same
      have T3 := hT2.but c3
      have B3 : SameBut p H1 (upd H2 t1 (.tup [V.str z])) := B2.trans c3.but
      generalize upd H2 t1 (.tup [V.str z]) = H3 at e1 T3 B3 ⊢
      refine ⟨_, rfl, fun E1 nE1 => ?_⟩
      have neE : E1 ≠ p := town_new T3 nE1
      refine lc_itY (walk_str (z := "fmsd")) (fun j H' => SameBut p H3 H' ∧ TownAt H' p ∧ ∃ rs : List Int, rs.length = j ∧ (rs.map PyData.int).all (numD (m : Int)) = true ∧ H' E1 = some (.lst (rs.map V.int))) ?_ (fun _ _ _ _ => trivial) ?_ ?_
      · exact ⟨(same_upd nE1).but, T3.but (same_upd nE1), [], rfl, rfl, upd_same⟩
      · rintro j v G G' hj ⟨bj, Tj, rs, hrs, hnum, ej⟩ ⟨rfl, c, hc, rfl⟩
        refine ⟨rfl, ?_⟩
        refine ⟨_, rfl, _, rfl, _, rfl, a, p, ns, (m : Int), rfl, hB.mono (bb.trans (B3.trans bj)), hlen, Tj, h3, by omega, fun G2 r hr0 hr1 T5 b5 => ?_⟩
        have hj4 : j < 4 := hj
        refine ⟨_, b5 _ _ neE ej, ?_, ?_, town_set T5 neE, rs ++ [r], by rw [List.length_append, hrs]; rfl, ?_, ?_⟩
        · rw [List.length_map, sizeLine_eq]
          omega
        · intro b o hb e
          rw [upd_ne (fun y => by rw [y, nE1] at e; cases e)]
          exact b5 _ _ hb (bj _ _ hb e)
        · rw [List.map_append, List.all_append, hnum]
          show (numD (m : Int) (.int r) && true) = true
          show ((decide (0 ≤ r) && decide (r < (m : Int))) && true) = true
          rw [decide_eq_true hr0, decide_eq_true hr1]
          rfl
        · rw [upd_same, List.map_append]
          rfl
      · rintro G ⟨bG, TG, rs, hrs, hnum, eG⟩
        have hrs : rs.length = 4 := hrs
        refine ⟨E1, _, rfl, .inl ⟨.inl (.inl eG), fun t2 n2 => ?_⟩⟩
        have e1G := bG _ _ (town_ne T3 e1) e1
        have c4 := same_upd (o := .tup (rs.map V.int)) n2
        have e2 : upd G t2 (.tup (rs.map V.int)) t2 = some (.tup (rs.map V.int)) := upd_same
        have e1' := c4 _ _ e1G
        have T5 := TG.but c4
        have B5 : SameBut p H1 (upd G t2 (.tup (rs.map V.int))) := B3.trans (bG.trans c4.but)
        generalize upd G t2 (.tup (rs.map V.int)) = G2 at e2 e1' T5 B5 ⊢
        refine ⟨t1, t2, _, _, rfl, rfl, .inl (.inl e1'), .inl (.inl e2), List.cons_ne_nil _ _, by rw [List.length_map, hrs]; show 1 + 4 ≤ sizeLine; decide, fun hz0 => ?_, fun _ t3 n3 => ?_⟩
        · have := congrArg List.length hz0
          rw [List.length_map, hrs] at this
          cases this
        have c6 := same_upd (o := .tup ([V.str z] ++ rs.map V.int)) n3
        have e3 : upd G2 t3 (.tup ([V.str z] ++ rs.map V.int)) t3 = some (.tup ([V.str z] ++ rs.map V.int)) := upd_same
        have T6 := T5.but c6
        have B6 : SameBut p H1 (upd G2 t3 (.tup ([V.str z] ++ rs.map V.int))) := B5.trans c6.but
        generalize upd G2 t3 (.tup ([V.str z] ++ rs.map V.int)) = G3 at e3 T6 B6 ⊢
        have eD6 := B6 _ _ neD eD
        have hi : i < m := hi
        refine ⟨D, _, _, rfl, rfl, eD6, by rw [hTs, sizeLine_eq]; omega, ?_⟩
        have td : Td false G3 (.ref t3) (.tuple (.str z :: rs.map PyData.int)) := .tup e3 (by rw [List.length_append, List.length_map, hrs]; show 1 + 4 ≤ 1000; decide) (.cons (.str hz) (tdAll_ints rs))
        have kt : ∀ b xs, G3 b = some (.tup xs) → upd G3 D (.lst (Ts ++ [V.ref t3])) b = some (.tup xs) := fun b xs e => by
          rw [upd_ne (fun y => by rw [y, eD6] at e; cases e)]
          exact e
        refine ⟨?_, town_set T6 neD, Ts ++ [.ref t3], ds ++ [.tuple (.str z :: rs.map PyData.int)], by rw [List.length_append, hTs]; rfl, upd_same, tdAll_tups kt (TdAll.snoc td (tdAll_but hT1 B6 tds)), ?_, _, _, rfl⟩
        · intro b o hb e
          rw [upd_ne (fun y => by rw [y, nD] at e; cases e)]
          exact B6 _ _ hb (bb _ _ hb e)
        · rw [List.all_append, hok]
          show ((decide ((rs.map PyData.int).length = 4) && letD 8 (.str z) && (rs.map PyData.int).all (numD (m : Int))) && true) = true
          rw [hzl, hnum, List.length_map, hrs]
          rfl
    · rintro σ H1 ⟨bb, hT1, Ts, ds, hTs, eD, tds, hok, x4, x5, rfl⟩
      have hTs : Ts.length = m := hTs
      have hds : ds.length = m := by rw [← tds.length, hTs]
      refine ⟨_, rfl, _, rfl, _, rfl, a, p, ns, (m : Int), rfl, hB.mono bb, hlen, hT1, h3, by omega, fun H2 r0 h00 h01 T2 b2 => ?_⟩
      refine ⟨_, rfl, _, rfl, _, rfl, a, p, ns, (m : Int), rfl, hB.mono (bb.trans b2), hlen, T2, h3, by omega, fun H3 r1 h10 h11 T3 b3 => ?_⟩
      have B3 := b2.trans b3
      have eD3 := B3 _ _ neD eD
      refine ⟨_, rfl, D, Ts, rfl, .inl ⟨.inl (.inl eD3), fun t nt => ?_⟩⟩
      have c4 := same_upd (o := .tup Ts) nt
      have e4 : upd H3 t (.tup Ts) t = some (.tup Ts) := upd_same
      have tds4 := (tdAll_but hT1 B3 tds).mono c4
      have T4 := T3.but c4
      have B4 : SameBut p H (upd H3 t (.tup Ts)) := bb.trans (B3.trans c4.but)
      generalize upd H3 t (.tup Ts) = H4 at e4 tds4 T4 B4 ⊢
      refine ⟨by show 3 ≤ sizeLine; decide, fun u nu => ?_⟩
      have c5 := same_upd (o := .tup [V.int r0, V.int r1, V.ref t]) nu
      refine q _ (.ref u) (.tuple [.int r0, .int r1, .tuple ds]) (.tup upd_same (by show 3 ≤ 1000; decide) (.cons (.int _) (.cons (.int _) (.cons (.tup (c5 _ _ e4) (by omega) (tds4.mono c5)) .nil)))) ?_ (T4.but c5) (B4.trans c5.but)
      show (decide (1 ≤ ds.length) && decide (ds.length ≤ 8) && numD (ds.length : Int) (.int r0) && numD (ds.length : Int) (.int r1) && ds.all (standD (ds.length : Int))) = true
      rw [hds]
      show (decide (1 ≤ m) && decide (m ≤ 8) && (decide (0 ≤ r0) && decide (r0 < (m : Int))) && (decide (0 ≤ r1) && decide (r1 < (m : Int))) && ds.all (standD (m : Int))) = true
      rw [hok, decide_eq_true hm1, decide_eq_true hm8, decide_eq_true h00, decide_eq_true h01, decide_eq_true h10, decide_eq_true h11]
      rfl
end
end K17

set_option maxHeartbeats 8000000
namespace K17
open PySem PySem.Spec PyProof.Rows L2 Kin
theorem kvOf_take {ps : List Per} {i : Nat} {p : Per} (e : ps[i]? = some p) (n : valV (kvOf (ps.take i)) (Sum.inr p.name : Key) = none) : putK (kvOf (ps.take i)) (Sum.inr p.name : Key) (.str (sexC p.he)) = kvOf (ps.take (i + 1)) := by
  unfold putK
  rw [if_neg (by rw [valV_any, n]; exact Bool.false_ne_true), List.take_add_one, e]
  unfold kvOf
  rw [List.map_append]
  rfl
theorem lt1 {n : Nat} (h : n + 64 < cLine) : n + 1 < cLine := by omega
def sexIn : List Per → Str → Option Bool
  | [], _ => none
  | p :: ps, z => if p.name = z then some p.he else sexIn ps z
def sxV : Option Bool → V
  | none => .non
  | some b => .str (sexC b)
theorem val_sex (z : Str) : ∀ ps : List Per, valV (kvOf ps) (Sum.inr z : Key) = (sexIn ps z).map fun b => V.str (sexC b)
  | [] => rfl
  | p :: ps => by
    show valV ((Sum.inr p.name, V.str (sexC p.he)) :: kvOf ps) _ = _
    unfold sexIn
    by_cases e : p.name = z
    · rw [valV_pos (by show (Sum.inr p.name : Key) = Sum.inr z; rw [e]), if_pos e]
      rfl
    · rw [valV_neg (by exact fun y => e (Sum.inr.inj y)), if_neg e]
      exact val_sex z ps
theorem sx_getD (o : Option Bool) : (o.map fun b => V.str (sexC b)).getD .non = sxV o := by cases o <;> rfl
theorem sexIn_no {z : Str} : ∀ {ps : List Per}, (∀ q ∈ ps, q.name ≠ z) → sexIn ps z = none
  | [], _ => rfl
  | p :: ps, h => by
    unfold sexIn
    rw [if_neg (h p List.mem_cons_self)]
    exact sexIn_no fun q m => h q (List.mem_cons_of_mem _ m)
def sexA (ps : List Per) : PyData → Option Bool
  | .str z => sexIn ps z
  | _ => none
def Apart (ps : List Per) : Prop := (ps.map Per.name).Nodup
theorem Apart.take {ps : List Per} (h : Apart ps) (i : Nat) : Apart (ps.take i) := by
  unfold Apart at *
  rw [List.map_take]
  exact h.sublist (List.take_sublist _ _)
theorem Apart.new {ps : List Per} (h : Apart ps) {i : Nat} {p : Per} (e : ps[i]? = some p) : ∀ q ∈ ps.take i, q.name ≠ p.name := by
  intro q hq en
  obtain ⟨k, hk⟩ := List.getElem?_of_mem hq
  rw [List.getElem?_take] at hk
  by_cases c : k < i
  · rw [if_pos c] at hk
    have hi := (List.getElem?_eq_some_iff.mp e).1
    have h1 : (ps.map Per.name)[k]? = some q.name := by rw [List.getElem?_map, hk]; rfl
    have h2 : (ps.map Per.name)[i]? = some p.name := by rw [List.getElem?_map, e]; rfl
    have := (List.getElem?_inj (by rw [List.length_map]; omega) h).mp (by rw [h1, h2, en])
    omega
  · rw [if_neg c] at hk
    cases hk
def okPar (ps : List Per) (b : Bool) : PyData → Bool
  | .none => true
  | d => decide (sexA ps d = some b)
section
variable {P : Program} {w : World} {K : PySem.W.Frag} {mg : Str → Option Value} {base : Heap}
def sp_sex_among : Sp := fun vs H Q _ => ∃ (x y : V) (ps : List Per) (d : PyData), vs = [x, y] ∧ FamAt H x ps ∧ ps.length ≤ 40 ∧ Apart ps ∧ Td true H y d ∧ ∀ H', Same H H' → Q (sxV (sexA ps d)) H'
theorem ok_sex_among (T : Txt K mg) : FnOk P w K mg base CX0 1 T.a_sex_among T.f_sex_among ["persons", "thing"] sp_sex_among := by
  refine T.d_sex_among.F.ok sc_sex_among (fun vs H Q E h => ?_) (fun cdv A outer s H vs Q E hr h => ?_)
  · obtain ⟨x, y, _, _, rfl, _⟩ := h
    rfl
  · obtain ⟨x, y, ps, d, rfl, fam, h40, hap, td, q⟩ := h
    refine ⟨_, (pss_cons (ps_if (pt_not (pt_val (pe_callB call_isi (by rfl) T.n_isinstance boot_isinstance (pa_cons (pv 1) (pa_cons (pe_bltn (v := .ty "str") (by rfl) T.n_str b_str rfl) pa_nil)))))
        (pss_one (ps_ret pe_non))
        pss_nil)
      (pss_one (ps_ret (pe_dget1 (lt1 hr.units) (pe_dc (own := [("person", 2)]) (g := gName 2) (tt := tYes) rfl sc_sex_among.nd (pi_tup (pv 0)) (blkOk_by (N := N_sex_among) (sc := defScope s_sex_among) (by decide +kernel)) (fun _ _ _ _ _ => pg_name (i := 2) sc_sex_among.nd rfl (Or.inl rfl)) (fun _ _ _ _ _ => pts_nil) (fun _ _ _ _ _ => (pe_ix (r := rIxT K) ix_tup (pv 2) pe_int (fun _ _ => rfl))) (fun _ _ _ _ _ => (pe_ix (r := rIxT K) ix_tup (pv 2) pe_int (fun _ _ => rfl)))) (pv 1) ⟨rfl, rfl, rfl, rfl⟩)))), ?_⟩
    obtain ⟨n, ty, kb, _⟩ := (td.ty (K := K)).ex
    refine ⟨y, rfl, y, .ty "str", .type n, .type "str", _, rfl, .ty "str", ty, kit_ty kb, _, rfl, ?_⟩
    cases td with
    | @str z hz =>
      refine iteF ?_
      obtain ⟨a, Ts, rfl, e2, e3, e4⟩ := fam.ex
      have hT : ∀ H', Same H H' → SqT K H' a (Ts.map V.ref) := fun H' s => .inl (.inl (s _ _ e2))
      refine ⟨_, rfl, a, rfl, ⟨_, hT _ (Same.refl _)⟩, fun D nD => ?_⟩
      refine dc_it (walk_tup (K := K) (a := a) (xs := Ts.map V.ref)) (fun i H' => Same H H' ∧ H' D = some (.dK (kvOf (ps.take i)))) ⟨same_upd nD, upd_same⟩ (fun i H' _ p => hT H' p.1) ?_ ?_
      · rintro i v H2 H2' hi ⟨s2, eD⟩ ⟨rfl, ev⟩
        rw [List.getElem?_map] at ev
        cases et : Ts[i]? with
        | none => rw [et] at ev; cases ev
        | some t =>
          rw [et] at ev
          cases ev
          obtain ⟨p, hp, ht⟩ := e4 i t et
          have ht := s2 _ _ ht
          have hi' := (List.getElem?_eq_some_iff.mp hp).1
          refine ⟨rfl, yes_go ?_⟩
          refine ⟨_, rfl, t, _, 0, _, rfl, rfl, .inl (.inl ht), rfl, ?_⟩
          refine ⟨_, rfl, t, _, 1, _, rfl, rfl, .inl (.inl ht), rfl, ?_⟩
          refine ⟨_, Sum.inr p.name, rfl, eD, ?_, ?_⟩
          · show (List.map _ (ps.take i)).length < sizeLine
            rw [List.length_map, List.length_take, sizeLine_eq]
            omega
          · rw [kvOf_take hp (by rw [val_sex, sexIn_no (hap.new hp)]; rfl)]
            exact ⟨same_set s2 nD, upd_same⟩
      · rintro H2 ⟨s2, eD⟩
        rw [List.length_map, e3, List.take_length] at eD
        refine ⟨D, rfl, .inl ⟨_, .inl eD⟩, _, rfl, _, DGet.k (k := Sum.inr z) eD, ?_⟩
        rw [val_sex, sx_getD]
        exact q _ s2
    | _ => exact iteT (q _ (Same.refl _))
def sp_need_parent (C : Addr) : Sp := fun vs H Q E => ∃ (x y : V) (ps : List Per) (d : PyData) (b : Bool), vs = [x, y, .str (sexC b)] ∧ FamAt H x ps ∧ ps.length ≤ 40 ∧ Apart ps ∧ Td true H y d ∧ ∀ H', Same H H' → (okPar ps b d = true → Q .non H') ∧ (okPar ps b d = false → E (.ref C) none H')
theorem sexC_ne {b c : Bool} : decide (V.str (sexC c) = V.str (sexC b)) = decide (c = b) := by cases b <;> cases c <;> decide +kernel
theorem par_test {ps : List Per} {b : Bool} {d : PyData} (h : d ≠ .none) : (!decide (sxV (sexA ps d) = V.str (sexC b))) = !okPar ps b d := by
  have e : okPar ps b d = decide (sexA ps d = some b) := by
    cases d <;> first | rfl | exact absurd rfl h
  rw [e]
  cases sexA ps d with
  | none => rfl
  | some c =>
    show (!decide (V.str (sexC c) = V.str (sexC b))) = _
    rw [sexC_ne]
    cases b <;> cases c <;> rfl
theorem ok_need_parent (T : Txt K mg) : FnOk P w K mg base (L2.CX P w) 2 T.a_need_parent T.f_need_parent ["persons", "thing", "sex"] (sp_need_parent T.aPa) := by
  have G_sex_among : FnOk P w K mg base CX0 1 T.a_sex_among T.f_sex_among ["persons", "thing"] sp_sex_among := ok_sex_among T
  refine T.d_need_parent.F.okX sc_need_parent (fun vs H Q E h => ?_) (fun cdv A outer s H vs Q E hr h => ?_)
  · obtain ⟨x, y, _, _, _, rfl, _⟩ := h
    rfl
  · obtain ⟨x, y, ps, d, b, rfl, fam, h40, hap, td, q⟩ := h
    refine ⟨_, (pss_one (ps_if (PW.pt (pw_and (pt_cmp (pc_notN (pv 1))) (pw_and1 (pt_cmpR op_ne (pe_call G_sex_among (hr.mono (by decide)) rfl T.d_sex_among.g T.d_sex_among.F.kp T.d_sex_among.b .nil pass0 (pa_cons (pv 0) (pa_cons (pv 1) pa_nil))) (pv 2) (nomark _)))))
        (pss_one (ps_raise rfl (takes_of rfl rfl rfl rfl) (pmk_own PySem.F.excBase_ValueError T.c_NoParent.x T.c_NoParent.g T.c_NoParent.k (raises_own T.c_NoParent.b T.c_NoParent.t) (by exact rfl))))
        pss_nil)), ?_⟩
    have go : y ≠ .non → d ≠ .none → (if (!decide (y = V.non)) = true then tTest (tOp rNe (tCall sp_sex_among [] E0 (tCons (tVar 0) (tCons (tVar 1) tNil))) (tVar 2)) (L2.start N_need_parent [x, y, .str (sexC b)]) H (fun k H1 => if k = true then E (.ref T.aPa) none H1 else Q .non H1) else (if false = true then E (.ref T.aPa) none H else Q .non H)) := by
      intro hy hd
      rw [decide_eq_false hy]
      refine iteT ?_
      refine ⟨_, rfl, _, rfl, x, y, ps, d, rfl, fam, h40, hap, td, fun H1 s1 => ?_⟩
      have hfl : flatV (sxV (sexA ps d)) = true := by cases sexA ps d <;> rfl
      refine ⟨_, rfl, ?_, _, rfl, ?_⟩
      · cases sexA ps d <;> rfl
      · rw [par_test hd]
        cases e : okPar ps b d with
        | true => exact iteF ((q H1 s1).1 e)
        | false => exact iteT ((q H1 s1).2 e)
    refine ⟨_, rfl, _, rfl, ?_⟩
    cases td with
    | non => exact iteF (iteF ((q H (Same.refl _)).1 rfl))
    | bl b' => exact go (fun z => by cases z) (fun z => by cases z)
    | int i => exact go (fun z => by cases z) (fun z => by cases z)
    | str hz => exact go (fun z => by cases z) (fun z => by cases z)
    | lst l e n r => exact go (fun z => by cases z) (fun z => by cases z)
    | tup e n r => exact go (fun z => by cases z) (fun z => by cases z)
def parOf (p : Per) (b : Bool) : Option Str := if b then p.fa else p.mo
def noPar (ps : List Per) (i : Nat) (p : Per) (d : PyData) : Bool :=
  match sexA (ps.take i) d with
  | none => true
  | some b => (parOf p b).isSome
def optOfD : PyData → Option Str
  | .str z => some z
  | _ => none
def addPar (p : Per) (b : Bool) (d : PyData) : Per := if b then { p with fa := optOfD d } else { p with mo := optOfD d }
/-- the family in which that parent has been found -/
def foundPs (ps : List Per) (i : Nat) (p : Per) (d : PyData) : List Per :=
  match sexA (ps.take i) d with
  | none => ps
  | some b => ps.set i (addPar p b d)
def sp_with_parent (C : Addr) : Sp := fun vs H Q E => ∃ (x y : V) (ps : List Per) (i : Nat) (p : Per) (d : PyData), vs = [x, .str p.name, y] ∧ FamAt H x ps ∧ ps.length ≤ 40 ∧ Apart ps ∧ ps[i]? = some p ∧ Td true H y d ∧
  (noPar ps i p d = true → ∀ H', Same H H' → E (.ref C) none H') ∧ (noPar ps i p d = false → ∀ H' v, Same H H' → FamAt H' v (foundPs ps i p d) → Q v H')
theorem FamAt.setAt {H H' : Hp} {r t : Addr} {Ts : List Addr} {ps : List Per} {i : Nat} {p : Per} (h3 : Ts.length = ps.length) (h4 : ∀ (j : Nat) (T : Addr), Ts[j]? = some T → ∃ p, ps[j]? = some p ∧ H T = some (.tup (perV p))) (s : Same H H') (hi : i < ps.length)
    (et : H' t = some (.tup (perV p))) (er : H' r = some (.tup ((Ts.map V.ref).take i ++ (V.ref t :: (Ts.map V.ref).drop (i + 1))))) : FamAt H' (.ref r) (ps.set i p) := by
  refine ⟨r, Ts.set i t, rfl, ?_, by rw [List.length_set, List.length_set, h3], fun j T e => ?_⟩
  · rw [er, List.set_eq_take_append_cons_drop, if_pos (by omega), List.map_append, List.map_cons, List.map_take, List.map_drop]
  · rw [List.getElem?_set] at e
    by_cases c : i = j
    · rw [if_pos c, if_pos (by omega)] at e
      cases e
      exact ⟨p, by rw [List.getElem?_set, if_pos c, if_pos hi], et⟩
    · rw [if_neg c] at e
      obtain ⟨q, hq, ht⟩ := h4 j T e
      exact ⟨q, by rw [List.getElem?_set, if_neg c]; exact hq, s _ _ ht⟩
theorem FamAt.takeAt {H H' : Hp} {q : Addr} {Ts : List Addr} {ps : List Per} (h3 : Ts.length = ps.length) (h4 : ∀ (j : Nat) (T : Addr), Ts[j]? = some T → ∃ p, ps[j]? = some p ∧ H T = some (.tup (perV p))) (s : Same H H') (i : Nat) (hq : H' q = some (.tup ((Ts.map V.ref).take i))) : FamAt H' (.ref q) (ps.take i) := by
  refine ⟨q, Ts.take i, rfl, by rw [hq, List.map_take], by rw [List.length_take, List.length_take, h3], fun j T e => ?_⟩
  rw [List.getElem?_take] at e
  by_cases c : j < i
  · rw [if_pos c] at e
    obtain ⟨p, hp, ht⟩ := h4 j T e
    exact ⟨p, by rw [List.getElem?_take, if_pos c]; exact hp, s _ _ ht⟩
  · rw [if_neg c] at e
    cases e
theorem ok_with_parent (T : Txt K mg) : FnOk P w K mg base (L2.CX P w) 2 T.a_with_parent T.f_with_parent ["family", "name", "parent"] (sp_with_parent T.aPa) := by
  have G_sex_among : FnOk P w K mg base CX0 1 T.a_sex_among T.f_sex_among ["persons", "thing"] sp_sex_among := ok_sex_among T
  refine T.d_with_parent.F.okX sc_with_parent (fun vs H Q E h => ?_) (fun cdv A outer s H vs Q E hr h => ?_)
  · obtain ⟨x, y, _, _, _, _, rfl, _⟩ := h
    rfl
  · obtain ⟨x, y, ps, i, p, d, rfl, fam, h40, hap, hp, td, q, qs⟩ := h
    refine ⟨_, (pss_cons (ps_set (i := 3) sc_with_parent.nd rfl (Or.inl rfl) (pe_bm PySem.F.plainAttrs_list PySem.F.slot_list_index PySem.F.type_list_index mt_index (pe_lc (own := [("person", 10)]) (g := gName 10) (tt := tYes) rfl sc_with_parent.nd (pi_tup (pv 0)) (blkOk_by (N := N_with_parent) (sc := defScope s_with_parent) (by decide +kernel)) (fun _ _ _ _ _ => pg_name (i := 10) sc_with_parent.nd rfl (Or.inl rfl)) (fun _ _ _ _ _ => pts_nil) (fun _ _ _ _ _ => (pe_ix (r := rIxT K) ix_tup (pv 10) pe_int (fun _ _ => rfl)))) (pa_cons (pv 1) pa_nil)))
      (pss_cons (ps_set (i := 4) sc_with_parent.nd rfl (Or.inl rfl) (pe_call G_sex_among (hr.mono (by decide)) rfl T.d_sex_among.g T.d_sex_among.F.kp T.d_sex_among.b .nil pass0 (pa_cons (pe_slice sl_tup (pv 0) po_none (po_some (pv 3))) (pa_cons (pv 2) pa_nil))))
      (pss_cons (ps_if (pt_cmp (pc_isN (pv 4)))
        (pss_one (ps_raise rfl (takes_of rfl rfl rfl rfl) (pmk_own PySem.F.excBase_ValueError T.c_NoParent.x T.c_NoParent.g T.c_NoParent.k (raises_own T.c_NoParent.b T.c_NoParent.t) (by exact rfl))))
        pss_nil)
      (pss_cons (ps_asg (pe_ix ix_tup (pv 0) (pv 3) (fun _ _ => rfl)) (pg_tup rfl (pgs_cons (pg_name (i := 6) sc_with_parent.nd rfl (Or.inl rfl)) (pgs_cons (pg_name (i := 7) sc_with_parent.nd rfl (Or.inl rfl)) (pgs_cons (pg_name (i := 8) sc_with_parent.nd rfl (Or.inl rfl)) (pgs_cons (pg_name (i := 9) sc_with_parent.nd rfl (Or.inl rfl)) pgs_nil))))))
      (pss_cons (ps_if (pt_cmp (pc_notN (pe_ifExp (pt_cmpR op_eq (pv 4) pe_str (nomark _)) (pv 8) (pv 9))))
        (pss_one (ps_raise rfl (takes_of rfl rfl rfl rfl) (pmk_own PySem.F.excBase_ValueError T.c_NoParent.x T.c_NoParent.g T.c_NoParent.k (raises_own T.c_NoParent.b T.c_NoParent.t) (by exact rfl))))
        pss_nil)
      (pss_cons (ps_set (i := 5) sc_with_parent.nd rfl (Or.inl rfl) (pe_ifExp (pt_cmpR op_eq (pv 4) pe_str (nomark _)) (pe_tup (pa_cons (pv 2) (pa_cons (pv 9) pa_nil))) (pe_tup (pa_cons (pv 8) (pa_cons (pv 2) pa_nil)))))
      (pss_one (ps_ret (pe_tup (StX.pa_star (pe_slice sl_tup (pv 0) po_none (po_some (pv 3))) (pa_cons (pe_tup (pa_cons (pv 1) (pa_cons (pv 7) (StX.pa_star (pv 5) pa_nil)))) (StX.pa_star (pe_slice sl_tup (pv 0) (po_some (pe_op op_add (pv 3) pe_int)) po_none) pa_nil)))))))))))), ?_⟩
    obtain ⟨a, Ts, rfl, e2, e3, e4⟩ := fam.ex
    have hi := (List.getElem?_eq_some_iff.mp hp).1
    have hT : ∀ H', Same H H' → SqT K H' a (Ts.map V.ref) := fun H' s => .inl (.inl (s _ _ e2))
    refine ⟨_, rfl, a, rfl, ⟨_, hT _ (Same.refl _)⟩, fun D nD => ?_⟩
    refine lc_strs (walk_tup (K := K) (a := a) (xs := Ts.map V.ref)) (ps.map Per.name) (by rw [List.length_map, List.length_map, e3]) (by rw [List.length_map]; omega) nD (fun H' s => hT H' s) ?_ ?_
    · rintro j v H2 H2' hj s2 ⟨rfl, ev⟩ Q' hq
      rw [List.getElem?_map] at ev
      cases et : Ts[j]? with
      | none => rw [et] at ev; cases ev
      | some t =>
        rw [et] at ev
        cases ev
        obtain ⟨p', hp', ht⟩ := e4 j t et
        refine ⟨rfl, _, rfl, t, _, 0, _, rfl, rfl, .inl (.inl (s2 _ _ ht)), rfl, hq _ _ (Same.refl _) ?_⟩
        rw [List.getElem?_map, hp']
        rfl
    · intro H2 s2 eD
      refine ⟨.inl ⟨rfl, _, .inl (.inl eD)⟩, _, rfl, ?_⟩
      refine ⟨D, _, .str p.name, i, .str p.name, rfl, rfl, .inl (.inl eD), rfl, ?_, ?_, ?_, ?_, ?_⟩
      · rw [List.all_eq_true]
        intro z hz
        obtain ⟨z', _, rfl⟩ := List.mem_map.mp hz
        rfl
      · rw [List.getElem?_map, List.getElem?_map, hp]
        rfl
      · show (p.name == p.name) = true
        exact beq_self_eq_true _
      · intro m z' hm hz'
        rw [List.getElem?_map, List.getElem?_map] at hz'
        cases hpm : ps[m]? with
        | none => rw [hpm] at hz'; cases hz'
        | some pm =>
          rw [hpm] at hz'
          cases hz'
          have hne := hap.new hp pm (List.mem_of_getElem? (i := m) (by rw [List.getElem?_take, if_pos hm]; exact hpm))
          show (pm.name == p.name) = false
          exact beq_eq_false_iff_ne.mpr hne
      · have hcut : cutV (Ts.map V.ref) none (some (i : Int)) = (Ts.map V.ref).take i := cut_take
        refine ⟨_, rfl, _, rfl, (i : Int), rfl, a, _, rfl, hT _ s2, ?_, fun l nl => ?_⟩
        · rw [List.length_map, HT.sIx_nat, e3]
          intro z
          omega
        · rw [hcut]
          have s3 : Same H (upd H2 l (.tup ((Ts.map V.ref).take i))) := s2.trans (same_upd nl)
          have el : upd H2 l (.tup ((Ts.map V.ref).take i)) l = some (.tup ((Ts.map V.ref).take i)) := upd_same
          generalize upd H2 l (.tup ((Ts.map V.ref).take i)) = H3 at s3 el ⊢
          have famT : FamAt H3 (.ref l) (ps.take i) := FamAt.takeAt e3 e4 s3 i el
          refine ⟨_, rfl, .ref l, y, ps.take i, d, rfl, famT, by rw [List.length_take]; omega, hap.take i, td.mono s3, fun H4 s4 => ?_⟩
          have s14 := s3.trans s4
          unfold noPar foundPs at qs
          unfold noPar at q
          cases es : sexA (ps.take i) d with
          | none =>
            rw [es] at q
            exact ⟨_, rfl, _, rfl, iteT (q rfl _ s14)⟩
          | some b =>
            rw [es] at q qs
            have q : (parOf p b).isSome = true → ∀ H', Same H H' → E (.ref T.aPa) none H' := q
            have qs : (parOf p b).isSome = false → ∀ H' v, Same H H' → FamAt H' v (ps.set i (addPar p b d)) → Q v H' := qs
            refine ⟨_, rfl, _, rfl, ?_⟩
            show (if decide (V.str (sexC b) = V.non) = true then _ else _)
            rw [decide_eq_false (fun z => by cases z)]
            refine iteF ?_
            have hTi : (Ts.map V.ref)[i]? = some (V.ref (Ts.getD i 0)) := by
              rw [List.getElem?_map, getD_some (l := Ts) (k := i) (d := 0) (by omega)]
              rfl
            obtain ⟨p', hp', ht⟩ := e4 i (Ts.getD i 0) (getD_some (by omega))
            rw [hp] at hp'
            cases hp'
            have hz : ∃ z, d = .str z ∧ y = .str z := by
              cases td with
              | @str z hz => exact ⟨z, rfl, rfl⟩
              | _ => cases es
            obtain ⟨z, rfl, rfl⟩ := hz
            refine ⟨_, rfl, _, rfl, a, _, (i : Int), _, rfl, rfl, hT _ s14, atI_nat hTi, ?_⟩
            refine ⟨Ts.getD i 0, _, rfl, .inl (.inl (s14 _ _ ht)), rfl, _, _, rfl, _, _, rfl, _, _, rfl, _, _, rfl, rfl, ?_⟩
            refine ⟨_, rfl, rfl, _, rfl, ?_⟩
            have fin : ∀ (v1 v2 : V) (st : L2.St), perV (addPar p b (.str z)) = [.str p.name, .str (sexC p.he), v1, v2] → st = [some (.ref a), some (.str p.name), some (.str z), some (.int (i : Int)), some (V.str (sexC b)), none, some (.str p.name), some (.str (sexC p.he)), some (optV p.fa), some (optV p.mo), none] →
                (parOf p b).isSome = false → ∀ (tp : Addr) H5, Same H4 H5 → H5 tp = some (.tup [v1, v2]) →
                (tTup (StX.tStar K (tSl (rSlT K) (tVar 0) tNoPart (tPart (tVar 3))) (tCons (tTup (tCons (tVar 1) (tCons (tVar 7) (StX.tStar K (tVar 5) tNil)))) (StX.tStar K (tSl (rSlT K) (tVar 0) (tPart (tOp (rI0 fun i j => .int (i + j)) (tVar 3) (tC (.int 1)))) tNoPart) tNil)))) (st.set 5 (some (.ref tp))) H5 Q := by
              rintro v1 v2 _ hv rfl hsome tp H5 s5 etp
              have s15 := s14.trans s5
              refine ⟨_, rfl, _, rfl, (i : Int), rfl, a, _, rfl, hT _ s15, ?_, fun l1 nl1 => ?_⟩
              · rw [List.length_map, HT.sIx_nat, e3]
                intro z
                omega
              rw [hcut]
              refine ⟨l1, _, rfl, .inl (.inl (.inl upd_same)), ?_⟩
              have s16 : Same H (upd H5 l1 (.tup ((Ts.map V.ref).take i))) := s15.trans (same_upd nl1)
              have etp6 := same_upd (o := .tup ((Ts.map V.ref).take i)) nl1 _ _ etp
              generalize upd H5 l1 (.tup ((Ts.map V.ref).take i)) = H6 at s16 etp6 ⊢
              refine ⟨_, rfl, _, rfl, _, rfl, tp, _, rfl, .inl (.inl (.inl etp6)), by show 4 ≤ sizeLine; decide, fun t nt => ?_⟩
              have s17 : Same H (upd H6 t (.tup (.str p.name :: .str (sexC p.he) :: ([v1, v2] ++ [])))) := s16.trans (same_upd nt)
              have et : upd H6 t (.tup (.str p.name :: .str (sexC p.he) :: ([v1, v2] ++ []))) t = some (.tup [.str p.name, .str (sexC p.he), v1, v2]) := upd_same
              generalize upd H6 t (.tup (.str p.name :: .str (sexC p.he) :: ([v1, v2] ++ []))) = H7 at s17 et ⊢
              refine ⟨_, rfl, _, rfl, _, _, rfl, rfl, _, rfl, a, _, rfl, hT _ s17, ?_, fun l2 nl2 => ?_⟩
              · have e1 : HT.sIx (Ts.map V.ref).length 0 (some ((i : Int) + 1)) = i + 1 := by
                  rw [show (i : Int) + 1 = ((i + 1 : Nat) : Int) by omega, HT.sIx_nat, List.length_map, e3]
                  omega
                rw [e1]
                intro z
                omega
              have hcut2 : cutV (Ts.map V.ref) (some ((i : Int) + 1)) none = (Ts.map V.ref).drop (i + 1) := by
                rw [show (i : Int) + 1 = ((i + 1 : Nat) : Int) by omega]
                exact cut_dropG
              rw [hcut2]
              refine ⟨l2, _, rfl, .inl (.inl (.inl upd_same)), ?_⟩
              have s18 : Same H (upd H7 l2 (.tup ((Ts.map V.ref).drop (i + 1)))) := s17.trans (same_upd nl2)
              have et8 := same_upd (o := .tup ((Ts.map V.ref).drop (i + 1))) nl2 _ _ et
              generalize upd H7 l2 (.tup ((Ts.map V.ref).drop (i + 1))) = H8 at s18 et8 ⊢
              refine ⟨?_, fun r nr => ?_⟩
              · rw [List.append_nil]
                simp only [List.length_append, List.length_cons, List.length_take, List.length_drop, List.length_map]
                rw [sizeLine_eq]
                omega
              rw [List.append_nil]
              refine qs hsome _ _ (s18.trans (same_upd nr)) (FamAt.setAt e3 e4 (s18.trans (same_upd nr)) hi ?_ upd_same)
              rw [hv]
              exact same_upd nr _ _ et8
            cases b with
            | true =>
              rw [show decide (sxV (some true) = V.str "he") = true by decide +kernel]
              refine iteT ⟨_, rfl, _, rfl, ?_⟩
              cases ep : p.fa with
              | some z' => exact iteT (q (by show p.fa.isSome = true; rw [ep]; rfl) _ s14)
              | none =>
                refine iteF ?_
                refine ⟨_, rfl, rfl, _, rfl, ?_⟩
                dsimp only
                rw [show decide (sxV (some true) = V.str "he") = true by decide +kernel]
                refine iteT ⟨_, rfl, _, rfl, by show 2 ≤ sizeLine; decide, fun tp np => ?_⟩
                exact fin _ _ _ rfl (by rw [ep]; rfl) (by show p.fa.isSome = false; rw [ep]; rfl) tp _ (same_upd np) upd_same
            | false =>
              rw [show decide (sxV (some false) = V.str "he") = false by decide +kernel]
              refine iteF ⟨_, rfl, _, rfl, ?_⟩
              cases ep : p.mo with
              | some z' => exact iteT (q (by show p.mo.isSome = true; rw [ep]; rfl) _ s14)
              | none =>
                refine iteF ?_
                refine ⟨_, rfl, rfl, _, rfl, ?_⟩
                dsimp only
                rw [show decide (sxV (some false) = V.str "he") = false by decide +kernel]
                refine iteF ⟨_, rfl, _, rfl, by show 2 ≤ sizeLine; decide, fun tp np => ?_⟩
                exact fin _ _ _ rfl (by rw [ep]; rfl) (by show p.mo.isSome = false; rw [ep]; rfl) tp _ (same_upd np) upd_same
end
end K17

set_option maxHeartbeats 8000000
namespace K17
open PySem PySem.Spec PyProof.Rows L2 Kin
/-! ### the house -/
theorem n1 : ¬ (("_family" : Str) = "_speech") := by decide +kernel
theorem n2 : ¬ (("_family" : Str) = "_past") := by decide +kernel
theorem n3 : ¬ (("_speech" : Str) = "_past") := by decide +kernel
theorem n4 : ¬ (("_speech" : Str) = "_family") := by decide +kernel
def fs (f s : V) (l : Addr) : List (Str × V) := [("_family", f), ("_speech", s), ("_past", .ref l)]
theorem fs_family {f s : V} {l : Addr} : (fs f s l).lookup ("_family" : Str) = some f := by
  unfold fs
  rw [List.lookup_cons_self]
theorem fs_speech {f s : V} {l : Addr} : (fs f s l).lookup ("_speech" : Str) = some s := by
  unfold fs
  rw [List.lookup_cons, show (("_speech" : Str) == "_family") = false by decide +kernel, List.lookup_cons_self]
theorem fs_past {f s : V} {l : Addr} : (fs f s l).lookup ("_past" : Str) = some (.ref l) := by
  unfold fs
  rw [List.lookup_cons, show (("_past" : Str) == "_family") = false by decide +kernel, List.lookup_cons, show (("_past" : Str) == "_speech") = false by decide +kernel, List.lookup_cons_self]
theorem fs_no {f s : V} {l : Addr} {m : Str} (h1 : (m == "_family") = false) (h2 : (m == "_speech") = false) (h3 : (m == "_past") = false) : (fs f s l).lookup m = none := by
  unfold fs
  rw [List.lookup_cons, h1, List.lookup_cons, h2, List.lookup_cons, h3]
  rfl
theorem put_family {f s f' : V} {l : Addr} : putF "_family" f' (fs f s l) = fs f' s l := by
  unfold fs
  show (if ("_family" : Str) = "_family" then _ else _) = _
  rw [if_pos rfl]
theorem put_speech {f s s' : V} {l : Addr} : putF "_speech" s' (fs f s l) = fs f s' l := by
  unfold fs
  show (if ("_family" : Str) = "_speech" then _ else (("_family" : Str), f) :: (if ("_speech" : Str) = "_speech" then _ else _)) = _
  rw [if_neg n1, if_pos rfl]
theorem put_new {f s : V} {l : Addr} : putF "_past" (.ref l) (putF "_speech" s (putF "_family" f [])) = fs f s l := by
  show putF "_past" (.ref l) (if ("_family" : Str) = "_speech" then _ else (("_family" : Str), f) :: [(("_speech" : Str), s)]) = _
  rw [if_neg n1]
  show (if ("_family" : Str) = "_past" then _ else (("_family" : Str), f) :: (if ("_speech" : Str) = "_past" then _ else (("_speech" : Str), s) :: [(("_past" : Str), V.ref l)])) = _
  rw [if_neg n2, if_neg n3]
  rfl
/-- all that was tracked, but x and l, is as it was -/
def Keep (x l : Addr) (H H' : Hp) : Prop := ∀ b o, b ≠ x → b ≠ l → H b = some o → H' b = some o
theorem Keep.refl (x l : Addr) (H : Hp) : Keep x l H H := fun _ _ _ _ h => h
theorem Keep.trans {x l : Addr} {H H1 H2 : Hp} (a : Keep x l H H1) (b : Keep x l H1 H2) : Keep x l H H2 := fun c o n m h => b c o n m (a c o n m h)
theorem same_keep {x l : Addr} {H H' : Hp} (s : Same H H') : Keep x l H H' := fun b o _ _ h => s b o h
/-- the tuples are as they were -/
def Tups (H H' : Hp) : Prop := ∀ b xs, H b = some (.tup xs) → H' b = some (.tup xs)
theorem Tups.trans {H H1 H2 : Hp} (a : Tups H H1) (b : Tups H1 H2) : Tups H H2 := fun c xs e => b c xs (a c xs e)
theorem same_tups {H H' : Hp} (s : Same H H') : Tups H H' := fun b xs e => s b _ e
theorem Keep.tups {C dx x l : Addr} {fs' : List (Str × V)} {ys : List V} {H H' : Hp} (h1 : H x = some (.ins C dx fs')) (h2 : H l = some (.lst ys)) (k : Keep x l H H') : Tups H H' := fun b xs e => k b _ (fun z => by rw [z, h1] at e; cases e) (fun z => by rw [z, h2] at e; cases e) e
theorem FamAt.tups {H H' : Hp} {x : V} {ps : List Per} (f : FamAt H x ps) (s : Tups H H') : FamAt H' x ps := by
  obtain ⟨a, Ts, h1, h2, h3, h4⟩ := f
  exact ⟨a, Ts, h1, s _ _ h2, h3, fun j T e => let ⟨p, e1, e2⟩ := h4 j T e; ⟨p, e1, s _ _ e2⟩⟩
theorem td_tups {H H' : Hp} {v : V} {d : PyData} (t : Td false H v d) (s : Tups H H') : Td false H' v d := Td.move (fun l => l) (fun b xs e => s b xs e) (fun l => by cases l) d v t
structure PerF (p : Per) : Prop where
  nm : nameD (.str p.name) = true
  fa : ∀ z, p.fa = some z → nameD (.str z) = true
  mo : ∀ z, p.mo = some z → nameD (.str z) = true
structure FamG (ps : List Per) : Prop where
  ap : Apart ps
  most : ps.length ≤ 40
  per : ∀ p ∈ ps, PerF p
/-- how it stands: a family and a speech -/
structure Mom where
  ps : List Per
  sd : PyData
structure MomAt (H : Hp) (fv sv : V) (m : Mom) : Prop where
  fam : FamAt H fv m.ps
  g : FamG m.ps
  sp : Td false H sv m.sd
  ok : speechD m.sd = true
theorem MomAt.tups {H H' : Hp} {fv sv : V} {m : Mom} (h : MomAt H fv sv m) (s : Tups H H') : MomAt H' fv sv m := ⟨h.fam.tups s, h.g, td_tups h.sp s, h.ok⟩
/-- pairs of a family and a speech -/
def Past (H : Hp) (ts : List Addr) (st : List Mom) : Prop := ts.length = st.length ∧ ∀ (i : Nat) (t : Addr), ts[i]? = some t → ∃ fv sv m, st[i]? = some m ∧ H t = some (.tup [fv, sv]) ∧ MomAt H fv sv m
theorem Past.tups {H H' : Hp} {ts : List Addr} {st : List Mom} (h : Past H ts st) (s : Tups H H') : Past H' ts st := ⟨h.1, fun i t e => let ⟨fv, sv, m, e1, e2, e3⟩ := h.2 i t e; ⟨fv, sv, m, e1, s _ _ e2, e3.tups s⟩⟩
theorem Past.nil {H : Hp} : Past H [] [] := ⟨rfl, fun i t e => by cases e⟩
theorem Past.snoc {H : Hp} {ts : List Addr} {st : List Mom} {t : Addr} {fv sv : V} {m : Mom} (h : Past H ts st) (et : H t = some (.tup [fv, sv])) (hm : MomAt H fv sv m) : Past H (ts ++ [t]) (st ++ [m]) := by
  refine ⟨by rw [List.length_append, List.length_append, h.1]; rfl, fun j T e => ?_⟩
  by_cases c : j < ts.length
  · rw [List.getElem?_append_left c] at e
    obtain ⟨fv', sv', m', h1, h2, h3⟩ := h.2 j T e
    exact ⟨fv', sv', m', by rw [List.getElem?_append_left (by rw [← h.1]; exact c)]; exact h1, h2, h3⟩
  · have hj : j = ts.length := by
      have := (List.getElem?_eq_some_iff.mp e).1
      rw [List.length_append] at this
      simp at this
      omega
    subst hj
    rw [List.getElem?_append_right (Nat.le_refl _)] at e
    simp at e
    subst e
    exact ⟨fv, sv, m, by rw [List.getElem?_append_right (by rw [h.1]; exact Nat.le_refl _), h.1, Nat.sub_self]; rfl, et, hm⟩
/-- the last pair -/
theorem Past.last {H : Hp} {ts : List Addr} {st : List Mom} (h : Past H ts st) (hn : st ≠ []) : ∃ ts' t st' m fv sv, ts = ts' ++ [t] ∧ st = st' ++ [m] ∧ H t = some (.tup [fv, sv]) ∧ MomAt H fv sv m ∧ Past H ts' st' := by
  have nt : ts ≠ [] := fun z => hn (List.length_eq_zero_iff.mp (by rw [← h.1, z]; rfl))
  obtain ⟨ts', t, rfl⟩ : ∃ ts' t, ts = ts' ++ [t] := ⟨ts.dropLast, ts.getLast nt, (List.dropLast_concat_getLast nt).symm⟩
  obtain ⟨st', m, rfl⟩ : ∃ st' m, st = st' ++ [m] := ⟨st.dropLast, st.getLast hn, (List.dropLast_concat_getLast hn).symm⟩
  have hl : ts'.length = st'.length := by
    have := h.1
    rw [List.length_append, List.length_append] at this
    simpa using this
  obtain ⟨fv, sv, m', e1, e2, e3⟩ := h.2 ts'.length t (by rw [List.getElem?_append_right (Nat.le_refl _), Nat.sub_self]; rfl)
  rw [List.getElem?_append_right (by omega), hl, Nat.sub_self] at e1
  cases e1
  refine ⟨ts', t, st', m, fv, sv, rfl, rfl, e2, e3, hl, fun i T e => ?_⟩
  have hi := (List.getElem?_eq_some_iff.mp e).1
  obtain ⟨fv', sv', m', h1, h2, h3⟩ := h.2 i T (by rw [List.getElem?_append_left hi]; exact e)
  rw [List.getElem?_append_left (by omega)] at h1
  exact ⟨fv', sv', m', h1, h2, h3⟩
/-- a house stands at x, its past at l -/
structure HouseS (C : Addr) (H : Hp) (x l : Addr) (st : List Mom) (m : Mom) : Prop where
  ex : ∃ (dx : Addr) (fv sv : V) (ts : List Addr), H x = some (.ins C dx (fs fv sv l)) ∧ MomAt H fv sv m ∧ H l = some (.lst (ts.map V.ref)) ∧ Past H ts st
theorem HouseS.mono {C : Addr} {H H' : Hp} {x l : Addr} {st : List Mom} {m : Mom} (h : HouseS C H x l st m) (s : Same H H') : HouseS C H' x l st m := by
  obtain ⟨dx, fv, sv, ts, h1, h2, h3, h4⟩ := h.ex
  exact ⟨dx, fv, sv, ts, s _ _ h1, h2.tups (same_tups s), s _ _ h3, h4.tups (same_tups s)⟩
theorem HouseS.tups {C : Addr} {H H' : Hp} {x l : Addr} {st : List Mom} {m : Mom} (h : HouseS C H x l st m) (k : Keep x l H H') : Tups H H' := by
  obtain ⟨dx, fv, sv, ts, h1, h2, h3, h4⟩ := h.ex
  exact k.tups h1 h3
/-- another house -/
theorem HouseS.other {C : Addr} {H H' : Hp} {x l y k : Addr} {st sq : List Mom} {m q : Mom} (h : HouseS C H x l st m) (g : HouseS C H y k sq q) (n1 : x ≠ y) (n2 : x ≠ k) (n3 : l ≠ y) (n4 : l ≠ k) (s : Keep y k H H') : HouseS C H' x l st m := by
  have t := g.tups s
  obtain ⟨dx, fv, sv, ts, h1, h2, h3, h4⟩ := h.ex
  exact ⟨dx, fv, sv, ts, s _ _ n1 n2 h1, h2.tups t, s _ _ n3 n4 h3, h4.tups t⟩
section
variable {P : Program} {w : World} {K : PySem.W.Frag} {mg : Str → Option Value} {base : Heap}
def sp_init (C : Addr) : Sp := fun vs H Q E => ∃ (x dx : Addr) (y : V) (d : PyData), vs = [.ref x, y] ∧ H x = some (.ins C dx []) ∧ Td false H y d ∧ speechD d = true ∧
  (∀ H' l, (∀ b o, b ≠ x → H b = some o → H' b = some o) → HouseS C H' x l [] ⟨[], d⟩ → H l = none → Q .non H')
theorem ok_init (T : TxtH K mg) : FnOk P w K mg base (L2.CX P w) 6 T.a_m_init T.f_m_init ["self", "speech"] (sp_init T.cH) := by
  have G_need_speech : FnOk P w K mg base (L2.CX P w) 5 T.a_need_speech T.f_need_speech ["thing"] (sp_need speechD T.aS) := ok_need_speech T.toTxt
  refine T.F_m_init.okX sc_m_init (fun vs H Q E h => ?_) (fun cdv A outer s H vs Q E hr h => ?_)
  · obtain ⟨x, dx, y, d, rfl, _⟩ := h
    rfl
  · obtain ⟨x, dx, y, d, rfl, ex, td, hd, q2⟩ := h
    refine ⟨_, (pss_cons (ps_expr (pe_callS G_need_speech (hr.mono (by decide)) rfl T.d_need_speech.g T.d_need_speech.F.kp T.d_need_speech.b (fun σ => passAt (takes_of rfl rfl rfl rfl) σ) (pa_cons (pv 1) pa_nil)))
      (pss_cons (ps_fld (pv 0) (pe_tup pa_nil) rfl) (pss_cons (ps_fld (pv 0) (pv 1) rfl) (pss_one (ps_fld (pv 0) (pe_lst pa_nil) rfl))))), ?_⟩
    refine ⟨y, rfl, y, d, rfl, td.lists, fun H1 s1 => ⟨fun _ => ?_, fun h => by rw [hd] at h; cases h⟩⟩
    have ex1 := s1 _ _ ex
    refine ⟨Nat.zero_le _, fun t nt => ?_⟩
    have xt : x ≠ t := ne_of_none ex1 nt
    have s2 : Same H (upd H1 t (.tup [])) := s1.trans (same_upd nt)
    have et : upd H1 t (.tup []) t = some (.tup []) := upd_same
    have ex2 : upd H1 t (.tup []) x = some (.ins T.cH dx []) := same_upd nt _ _ ex1
    generalize upd H1 t (.tup []) = H2 at s2 et ex2 ⊢
    refine ⟨_, rfl, x, T.cH, dx, [], rfl, ex2, T.cl, T.n_family, (by show 0 < 1000; decide), ?_⟩
    refine ⟨_, rfl, _, rfl, x, T.cH, dx, _, rfl, upd_same, T.cl, T.n_speech, (by show 1 < 1000; decide), ?_⟩
    refine ⟨Nat.zero_le _, fun l nl => ?_⟩
    rw [upd_upd] at nl
    have nlx : l ≠ x := fun z => by rw [z, upd_same] at nl; cases nl
    have nl2 : H2 l = none := by rw [upd_ne nlx] at nl; exact nl
    have ntl : t ≠ l := ne_of_none et nl2
    refine ⟨_, rfl, x, T.cH, dx, _, rfl, (by rw [upd_upd, upd_ne (Ne.symm nlx)]; exact upd_same), T.cl, T.n_past, ?_, ?_⟩
    · show (if ("_family" : Str) = "_speech" then [(("_family" : Str), y)] else (("_family" : Str), V.ref t) :: putF "_speech" y []).length < 1000
      rw [if_neg n1]
      show 2 < 1000
      decide
    have hb : ∀ b o, b ≠ x → H2 b = some o → b ≠ l := fun b o _ e z => by rw [z, nl2] at e; cases e
    refine q2 _ l (fun b o nb e => ?_) ⟨⟨dx, .ref t, y, [], ?_, ⟨⟨t, [], rfl, ?_, rfl, fun j T' e => by cases e⟩, ⟨List.Pairwise.nil, Nat.zero_le _, fun p hp => by cases hp⟩, ?_, hd⟩, ?_, Past.nil⟩⟩ ?_
    · have e2 := s2 _ _ e
      rw [upd_ne nb, upd_ne (ne_of_none e2 nl2), upd_ne nb, upd_ne nb]
      exact e2
    · rw [upd_same, put_new]
    · rw [upd_ne (fun z => xt z.symm), upd_ne ntl, upd_ne (fun z => xt z.symm), upd_ne (fun z => xt z.symm)]
      exact et
    · refine td_tups td fun b xs e => ?_
      have e2 := s2 _ _ e
      have nb : b ≠ x := fun z => by rw [z, ex] at e; cases e
      rw [upd_ne nb, upd_ne (ne_of_none e2 nl2), upd_ne nb, upd_ne nb]
      exact e2
    · rw [upd_ne nlx, upd_same]
      rfl
    · cases e : H l with
      | none => rfl
      | some o =>
        rw [s2 _ _ e] at nl2
        cases nl2
end
end K17

set_option maxHeartbeats 8000000
namespace K17
open PySem PySem.Spec PyProof.Rows L2 Kin
def strOfD : PyData → Str
  | .str z => z
  | _ => ""
def isHe : PyData → Bool
  | .str z => decide (z = "he")
  | _ => false
def newPer (dn ds df dm : PyData) : Per := ⟨strOfD dn, isHe ds, optOfD df, optOfD dm⟩
/-- which refusal, if any -/
def bornNo (ps : List Per) (dn ds df dm : PyData) : Option Nat :=
  if nameD dn = false then some 2 else if (sexA ps dn).isSome = true then some 10 else if sexD ds = false then some 3 else if okPar ps true df = false then some 9 else if okPar ps false dm = false then some 9 else if 40 ≤ ps.length then some 11 else none
theorem sexIn_some {z : Str} : ∀ {ps : List Per}, sexIn ps z = none → ∀ q ∈ ps, q.name ≠ z
  | [], _, q, hq => by cases hq
  | p :: ps, h, q, hq => by
    unfold sexIn at h
    by_cases e : p.name = z
    · rw [if_pos e] at h; cases h
    · rw [if_neg e] at h
      rcases List.mem_cons.mp hq with rfl | hq
      · exact e
      · exact sexIn_some h q hq
theorem Apart.snoc {ps : List Per} {p : Per} (h : Apart ps) (n : sexIn ps p.name = none) : Apart (ps ++ [p]) := by
  unfold Apart at *
  rw [List.map_append]
  refine List.nodup_append.mpr ⟨h, by simp, fun a ha b hb => ?_⟩
  obtain ⟨q, hq, rfl⟩ := List.mem_map.mp ha
  have hb : b = p.name := by simpa using hb
  rw [hb]
  exact sexIn_some n q hq
theorem td_par {H : Hp} {ps : List Per} {b : Bool} {y : V} {d : PyData} (td : Td true H y d) (h : okPar ps b d = true) : y = optV (optOfD d) := by
  cases td with
  | non => rfl
  | str hz => rfl
  | bl b' =>
    have h' : decide ((none : Option Bool) = some b) = true := h
    exact absurd (of_decide_eq_true h') (by intro z; cases z)
  | int i =>
    have h' : decide ((none : Option Bool) = some b) = true := h
    exact absurd (of_decide_eq_true h') (by intro z; cases z)
  | lst l e n r =>
    have h' : decide ((none : Option Bool) = some b) = true := h
    exact absurd (of_decide_eq_true h') (by intro z; cases z)
  | tup e n r =>
    have h' : decide ((none : Option Bool) = some b) = true := h
    exact absurd (of_decide_eq_true h') (by intro z; cases z)
theorem td_name {H : Hp} {y : V} {d : PyData} (td : Td true H y d) (h : nameD d = true) : y = .str (strOfD d) ∧ d = .str (strOfD d) := by
  cases td with
  | str hz => exact ⟨rfl, rfl⟩
  | _ => cases h
theorem td_sexV {H : Hp} {y : V} {d : PyData} (td : Td true H y d) (h : sexD d = true) : y = .str (sexC (isHe d)) := by
  cases td with
  | @str z hz =>
    have h' : (decide (z = "he") || decide (z = "she")) = true := h
    rw [Bool.or_eq_true, decide_eq_true_eq, decide_eq_true_eq] at h'
    rcases h' with rfl | rfl
    · rfl
    · rfl
  | _ => cases h
theorem sexIn_mem {z : Str} {b : Bool} : ∀ {ps : List Per}, sexIn ps z = some b → ∃ q ∈ ps, q.name = z
  | [], h => by cases h
  | p :: ps, h => by
    unfold sexIn at h
    by_cases e : p.name = z
    · exact ⟨p, List.mem_cons_self, e⟩
    · rw [if_neg e] at h
      obtain ⟨q, hq, e2⟩ := sexIn_mem h
      exact ⟨q, List.mem_cons_of_mem _ hq, e2⟩
theorem FamG.name {ps : List Per} (g : FamG ps) {z : Str} {b : Bool} (h : sexIn ps z = some b) : nameD (.str z) = true := by
  obtain ⟨q, hq, rfl⟩ := sexIn_mem h
  exact (g.per q hq).nm
theorem FamG.par {ps : List Per} (g : FamG ps) {b : Bool} {d : PyData} (h : okPar ps b d = true) {z : Str} (hz : optOfD d = some z) : nameD (.str z) = true := by
  cases d with
  | str y =>
    cases hz
    have h' : decide (sexIn ps z = some b) = true := h
    exact g.name (of_decide_eq_true h')
  | _ => cases hz
theorem FamG.snoc {ps : List Per} (g : FamG ps) {d1 d2 d3 d4 : PyData} (h : bornNo ps d1 d2 d3 d4 = none) : FamG (ps ++ [newPer d1 d2 d3 d4]) := by
  unfold bornNo at h
  by_cases e1 : nameD d1 = false
  · rw [if_pos e1] at h; cases h
  rw [if_neg e1] at h
  by_cases e2 : (sexA ps d1).isSome = true
  · rw [if_pos e2] at h; cases h
  rw [if_neg e2] at h
  by_cases e3 : sexD d2 = false
  · rw [if_pos e3] at h; cases h
  rw [if_neg e3] at h
  by_cases e4 : okPar ps true d3 = false
  · rw [if_pos e4] at h; cases h
  rw [if_neg e4] at h
  by_cases e5 : okPar ps false d4 = false
  · rw [if_pos e5] at h; cases h
  rw [if_neg e5] at h
  by_cases e6 : 40 ≤ ps.length
  · rw [if_pos e6] at h; cases h
  have e1 : nameD d1 = true := by simpa using e1
  have e4 : okPar ps true d3 = true := by simpa using e4
  have e5 : okPar ps false d4 = true := by simpa using e5
  have en : d1 = .str (strOfD d1) := by
    cases d1 with
    | str z => rfl
    | _ => cases e1
  have hn : sexIn ps (newPer d1 d2 d3 d4).name = none := by
    rw [en] at e2
    have e2 : ¬ (sexIn ps (strOfD d1)).isSome = true := e2
    show sexIn ps (strOfD d1) = none
    cases e : sexIn ps (strOfD d1) with
    | none => rfl
    | some b => rw [e] at e2; exact absurd rfl e2
  refine ⟨g.ap.snoc hn, by rw [List.length_append]; show ps.length + 1 ≤ 40; omega, fun p hp => ?_⟩
  rcases List.mem_append.mp hp with hp | hp
  · exact g.per p hp
  · cases List.mem_singleton.mp hp
    exact ⟨by rw [en] at e1; exact e1, fun z hz => g.par e4 hz, fun z hz => g.par e5 hz⟩
theorem FamG.found {ps : List Per} (g : FamG ps) {i : Nat} {p : Per} {d : PyData} (hp : ps[i]? = some p) (h : noPar ps i p d = false) : FamG (foundPs ps i p d) := by
  unfold noPar at h
  unfold foundPs
  cases es : sexA (ps.take i) d with
  | none => rw [es] at h; cases h
  | some b =>
    have hz : ∀ z, optOfD d = some z → nameD (.str z) = true := fun z hz => by
      cases d with
      | str y =>
        cases hz
        obtain ⟨q, hq, rfl⟩ := sexIn_mem (show sexIn (ps.take i) z = some b from es)
        exact (g.per q (List.mem_of_mem_take hq)).nm
      | _ => cases hz
    have po := g.per p (List.mem_of_getElem? hp)
    have hn : (addPar p b d).name = p.name := by unfold addPar; cases b <;> rfl
    refine ⟨?_, by rw [List.length_set]; exact g.most, fun q hq => ?_⟩
    · have e : (ps.set i (addPar p b d)).map Per.name = ps.map Per.name := by
        refine List.ext_getElem? fun j => ?_
        rw [List.getElem?_map, List.getElem?_map, List.getElem?_set]
        by_cases c : i = j
        · subst c
          rw [if_pos rfl, if_pos (List.getElem?_eq_some_iff.mp hp).1, hp]
          exact congrArg some hn
        · rw [if_neg c]
      show ((ps.set i (addPar p b d)).map Per.name).Nodup
      rw [e]
      exact g.ap
    · rcases List.mem_or_eq_of_mem_set hq with hq | rfl
      · exact g.per q hq
      · unfold addPar
        cases b with
        | true => exact ⟨po.nm, hz, po.mo⟩
        | false => exact ⟨po.nm, po.fa, hz⟩
section
variable {P : Program} {w : World} {K : PySem.W.Frag} {mg : Str → Option Value} {base : Heap}
def sp_become (C : Addr) : Sp := fun vs H Q _ => ∃ (x l : Addr) (st : List Mom) (m m' : Mom) (fv' sv' : V), vs = [.ref x, fv', sv'] ∧ HouseS C H x l st m ∧ st.length ≤ 1000 ∧ MomAt H fv' sv' m' ∧ ∀ H', Keep x l H H' → HouseS C H' x l (st ++ [m]) m' → Q .non H'
theorem ok_become (T : TxtH K mg) : FnOk P w K mg base CX0 1 T.a_m_become T.f_m_become ["self", "family", "speech"] (sp_become T.cH) := by
  refine T.F_m_become.ok sc_m_become (fun vs H Q E h => ?_) (fun cdv A outer s H vs Q E hr h => ?_)
  · obtain ⟨_, _, _, _, _, _, _, rfl, _⟩ := h
    rfl
  · obtain ⟨x, l, st, m, m', fv', sv', rfl, hh, hn, hm', q⟩ := h
    refine ⟨_, (pss_cons (ps_expr (pe_bm PySem.F.plainAttrs_list PySem.F.slot_list_append PySem.F.type_list_append mt_append (pe_fld (pv 0) rfl) (pa_cons (pe_tup (pa_cons (pe_fld (pv 0) rfl) (pa_cons (pe_fld (pv 0) rfl) pa_nil))) pa_nil)))
      (pss_cons (ps_fld (pv 0) (pv 1) rfl) (pss_one (ps_fld (pv 0) (pv 2) rfl)))), ?_⟩
    obtain ⟨dx, fv, sv, ts, h1, hm, hL, hP⟩ := hh.ex
    have nlx : l ≠ x := ne_of hL h1 (by intro q; cases q)
    refine ⟨_, rfl, x, T.cH, dx, _, _, rfl, h1, T.cl, T.n_past, fs_past, .inl ⟨rfl, _, SqL.of hL⟩, ?_⟩
    refine ⟨_, rfl, x, T.cH, dx, _, _, rfl, h1, T.cl, T.n_family, fs_family, _, rfl, x, T.cH, dx, _, _, rfl, h1, T.cl, T.n_speech, fs_speech, by show 2 ≤ sizeLine; decide, fun t nt => ?_⟩
    have s1 : Same H (upd H t (.tup [fv, sv])) := same_upd nt
    have h1' := s1 _ _ h1
    have hL' := s1 _ _ hL
    have et : upd H t (.tup [fv, sv]) t = some (.tup [fv, sv]) := upd_same
    generalize upd H t (.tup [fv, sv]) = H1 at s1 h1' hL' et ⊢
    refine ⟨l, _, _, rfl, rfl, hL', by rw [List.length_map, hP.1, sizeLine_eq]; omega, ?_⟩
    have e2 : upd H1 l (.lst (ts.map V.ref ++ [V.ref t])) x = some (.ins T.cH dx (fs fv sv l)) := by rw [upd_ne (Ne.symm nlx)]; exact h1'
    refine ⟨_, rfl, _, rfl, x, T.cH, dx, _, rfl, e2, T.cl, T.n_family, (by show 3 < 1000; decide), ?_⟩
    refine ⟨_, rfl, _, rfl, x, T.cH, dx, _, rfl, upd_same, T.cl, T.n_speech, (by rw [put_family]; show 3 < 1000; decide), ?_⟩
    have kp : Keep x l H1 (upd (upd (upd H1 l (.lst (ts.map V.ref ++ [V.ref t]))) x (.ins T.cH dx (putF "_family" fv' (fs fv sv l)))) x (.ins T.cH dx (putF "_speech" sv' (putF "_family" fv' (fs fv sv l))))) := fun b o n1 n2 e => by
      rw [upd_ne n1, upd_ne n1, upd_ne n2]
      exact e
    have tp := kp.tups h1' hL'
    have tp0 := (same_tups s1).trans tp
    refine q _ ((same_keep s1).trans kp) ⟨⟨dx, fv', sv', ts ++ [t], ?_, hm'.tups tp0, ?_, (hP.tups tp0).snoc (tp _ _ et) (hm.tups tp0)⟩⟩
    · rw [upd_same, put_family, put_speech]
    · rw [upd_ne nlx, upd_ne nlx, upd_same, List.map_append]
      rfl
def exc (T : TxtH K mg) : Nat → Addr
  | 2 => T.aN
  | 3 => T.aX
  | 5 => T.aS
  | 9 => T.aPa
  | 10 => T.aTk
  | 11 => T.aFu
  | _ => T.aD
theorem FamAt.snoc {H H' : Hp} {a b t : Addr} {Ts : List Addr} {ps : List Per} {p : Per} (h3 : Ts.length = ps.length) (h4 : ∀ (j : Nat) (T : Addr), Ts[j]? = some T → ∃ p, ps[j]? = some p ∧ H T = some (.tup (perV p))) (s : Same H H') (et : H' t = some (.tup (perV p))) (eb : H' b = some (.tup (Ts.map V.ref ++ [V.ref t]))) : FamAt H' (.ref b) (ps ++ [p]) := by
  refine ⟨b, Ts ++ [t], rfl, by rw [eb, List.map_append]; rfl, by rw [List.length_append, List.length_append, h3]; rfl, fun j T e => ?_⟩
  by_cases c : j < Ts.length
  · rw [List.getElem?_append_left c] at e
    obtain ⟨q, hq, ht⟩ := h4 j T e
    exact ⟨q, by rw [List.getElem?_append_left (by omega)]; exact hq, s _ _ ht⟩
  · have hj : j = Ts.length := by
      have := (List.getElem?_eq_some_iff.mp e).1
      rw [List.length_append] at this
      simp at this
      omega
    subst hj
    rw [List.getElem?_append_right (Nat.le_refl _)] at e
    simp at e
    subst e
    exact ⟨p, by rw [List.getElem?_append_right (by omega), h3, Nat.sub_self]; rfl, et⟩
def sp_born (T : TxtH K mg) : Sp := fun vs H Q E => ∃ (x l : Addr) (st : List Mom) (m : Mom) (y1 y2 y3 y4 : V) (d1 d2 d3 d4 : PyData), vs = [.ref x, y1, y2, y3, y4] ∧ HouseS T.cH H x l st m ∧ st.length ≤ 1000 ∧ Td true H y1 d1 ∧ Td true H y2 d2 ∧ Td true H y3 d3 ∧ Td true H y4 d4 ∧
  (∀ j, bornNo m.ps d1 d2 d3 d4 = some j → ∀ H', Same H H' → E (.ref (exc T j)) none H') ∧ (bornNo m.ps d1 d2 d3 d4 = none → ∀ H', Keep x l H H' → HouseS T.cH H' x l (st ++ [m]) ⟨m.ps ++ [newPer d1 d2 d3 d4], m.sd⟩ → Q .non H')
theorem ok_born (T : TxtH K mg) : FnOk P w K mg base (L2.CX P w) 4 T.a_m_born T.f_m_born ["self", "name", "sex", "father", "mother"] (sp_born T) := by
  have G_is_name : FnOk P w K mg base CX0 2 T.a_is_name T.f_is_name ["thing"] sp_is_name := ok_is_name T.toTxt
  have G_sex_among : FnOk P w K mg base CX0 1 T.a_sex_among T.f_sex_among ["persons", "thing"] sp_sex_among := ok_sex_among T.toTxt
  have G_need_sex : FnOk P w K mg base (L2.CX P w) 2 T.a_need_sex T.f_need_sex ["thing"] (sp_need sexD T.aX) := ok_need_sex T.toTxt
  have G_need_parent : FnOk P w K mg base (L2.CX P w) 2 T.a_need_parent T.f_need_parent ["persons", "thing", "sex"] (sp_need_parent T.aPa) := ok_need_parent T.toTxt
  have G_become : FnOk P w K mg base CX0 1 T.a_m_become T.f_m_become ["self", "family", "speech"] (sp_become T.cH) := ok_become T
  refine T.F_m_born.ok sc_m_born (fun vs H Q E h => ?_) (fun cdv A outer s H vs Q E hr h => ?_)
  · obtain ⟨_, _, _, _, _, _, _, _, _, _, _, _, rfl, _⟩ := h
    rfl
  · obtain ⟨x, l, st, ⟨ps, sd⟩, y1, y2, y3, y4, d1, d2, d3, d4, rfl, hh, hn, t1, t2, t3, t4, qe, qs⟩ := h
    dsimp only at qe qs
    refine ⟨_, (pss_cons (ps_if (pt_not (pt_val (pe_call G_is_name (hr.mono (by decide)) rfl T.d_is_name.g T.d_is_name.F.kp T.d_is_name.b .nil pass0 (pa_cons (pv 1) pa_nil))))
        (pss_one (ps_raise rfl (takes_of rfl rfl rfl rfl) (pmk_own PySem.F.excBase_ValueError T.c_NoName.x T.c_NoName.g T.c_NoName.k (raises_own T.c_NoName.b T.c_NoName.t) (by exact rfl))))
        pss_nil)
      (pss_cons (ps_if (pt_cmp (pc_notN (pe_call G_sex_among (hr.mono (by decide)) rfl T.d_sex_among.g T.d_sex_among.F.kp T.d_sex_among.b .nil pass0 (pa_cons (pe_fld (pv 0) rfl) (pa_cons (pv 1) pa_nil)))))
        (pss_one (ps_raise rfl (takes_of rfl rfl rfl rfl) (pmk_own PySem.F.excBase_ValueError T.c_Taken.x T.c_Taken.g T.c_Taken.k (raises_own T.c_Taken.b T.c_Taken.t) (by exact rfl))))
        pss_nil)
      (pss_cons (ps_expr (pe_callS G_need_sex (hr.mono (by decide)) rfl T.d_need_sex.g T.d_need_sex.F.kp T.d_need_sex.b (fun σ => passAt (takes_of rfl rfl rfl rfl) σ) (pa_cons (pv 2) pa_nil)))
      (pss_cons (ps_expr (pe_callS G_need_parent (hr.mono (by decide)) rfl T.d_need_parent.g T.d_need_parent.F.kp T.d_need_parent.b (fun σ => passAt (takes_of rfl rfl rfl rfl) σ) (pa_cons (pe_fld (pv 0) rfl) (pa_cons (pv 3) (pa_cons pe_str pa_nil)))))
      (pss_cons (ps_expr (pe_callS G_need_parent (hr.mono (by decide)) rfl T.d_need_parent.g T.d_need_parent.F.kp T.d_need_parent.b (fun σ => passAt (takes_of rfl rfl rfl rfl) σ) (pa_cons (pe_fld (pv 0) rfl) (pa_cons (pv 4) (pa_cons pe_str pa_nil)))))
      (pss_cons (ps_if (pt_cmpR op_ge (pe_callB call_len_seq (by rfl) T.n_len boot_len (pa_cons (pe_fld (pv 0) rfl) pa_nil)) (pe_gI rfl T.g_MOST_PERSONS) (nomark _))
        (pss_one (ps_raise rfl (takes_of rfl rfl rfl rfl) (pmk_own PySem.F.excBase_ValueError T.c_Full.x T.c_Full.g T.c_Full.k (raises_own T.c_Full.b T.c_Full.t) (by exact rfl))))
        pss_nil)
      (pss_one (ps_expr (pe_meth (pv 0) T.cl T.h_m_become G_become (hr.mono (by decide)) T.b_m_become .nil pass0 (pa_cons (pe_tup (StX.pa_star (pe_fld (pv 0) rfl) (pa_cons (pe_tup (pa_cons (pv 1) (pa_cons (pv 2) (pa_cons (pv 3) (pa_cons (pv 4) pa_nil))))) pa_nil))) (pa_cons (pe_fld (pv 0) rfl) pa_nil))))))))))), ?_⟩
    obtain ⟨dx, fv, sv, ts, h1, hm, hL, hP⟩ := hh.ex
    have hf : FamAt H fv ps := hm.fam
    have hap : Apart ps := hm.g.ap
    have h40 : ps.length ≤ 40 := hm.g.most
    have hg : bornNo ps d1 d2 d3 d4 = none → FamG (ps ++ [newPer d1 d2 d3 d4]) := fun h => FamG.snoc hm.g h
    unfold bornNo at qe qs hg
    refine ⟨_, rfl, y1, d1, rfl, t1, fun H1 s1 => ⟨_, rfl, ?_⟩⟩
    cases e1 : nameD d1 with
    | false =>
      rw [if_pos e1] at qe
      exact iteT (qe 2 rfl _ s1)
    | true =>
      rw [if_neg (by rw [e1]; exact Bool.noConfusion)] at qe qs hg
      refine iteF ?_
      refine ⟨_, rfl, x, T.cH, dx, _, _, rfl, s1 _ _ h1, T.cl, T.n_family, fs_family, _, rfl, fv, y1, ps, d1, rfl, hf.mono s1, h40, hap, t1.mono s1, fun H2 s2 => ⟨_, rfl, ?_⟩⟩
      have s12 := s1.trans s2
      cases e2 : sexA ps d1 with
      | some b =>
        rw [if_pos (by rw [e2]; rfl)] at qe
        show (if (!decide (V.str (sexC b) = V.non)) = true then _ else _)
        rw [decide_eq_false (fun z => by cases z)]
        exact iteT (qe 10 rfl _ s12)
      | none =>
        rw [if_neg (by rw [e2]; exact Bool.noConfusion)] at qe qs hg
        refine iteF ?_
        refine ⟨_, rfl, y2, d2, rfl, t2.mono s12, fun H3 s3 => ⟨fun e3 => ?_, fun e3 => ?_⟩⟩
        · rw [if_neg (by rw [e3]; exact Bool.noConfusion)] at qe qs hg
          have s13 := s12.trans s3
          refine ⟨_, rfl, x, T.cH, dx, _, _, rfl, s13 _ _ h1, T.cl, T.n_family, fs_family, _, rfl, fv, y3, ps, d3, true, rfl, hf.mono s13, h40, hap, t3.mono s13, fun H4 s4 => ⟨fun e4 => ?_, fun e4 => ?_⟩⟩
          · rw [if_neg (by rw [e4]; exact Bool.noConfusion)] at qe qs hg
            have s14 := s13.trans s4
            refine ⟨_, rfl, x, T.cH, dx, _, _, rfl, s14 _ _ h1, T.cl, T.n_family, fs_family, _, rfl, fv, y4, ps, d4, false, rfl, hf.mono s14, h40, hap, t4.mono s14, fun H5 s5 => ⟨fun e5 => ?_, fun e5 => ?_⟩⟩
            · rw [if_neg (by rw [e5]; exact Bool.noConfusion)] at qe qs hg
              have s15 := s14.trans s5
              obtain ⟨a, Ts, rfl, f2, f3, f4⟩ := hf.ex
              refine ⟨_, rfl, x, T.cH, dx, _, _, rfl, s15 _ _ h1, T.cl, T.n_family, fs_family, a, _, rfl, .inr (.inl (.inl (s15 _ _ f2))), _, _, rfl, rfl, _, rfl, ?_⟩
              by_cases h4 : 40 ≤ ps.length
              · rw [if_pos h4] at qe
                rw [decide_eq_true (by rw [List.length_map, f3]; omega)]
                exact iteT (qe 11 rfl _ s15)
              · rw [if_neg h4] at qs hg
                rw [decide_eq_false (by rw [List.length_map, f3]; omega)]
                refine iteF ?_
                refine ⟨_, rfl, x, dx, _, rfl, s15 _ _ h1, fs_no (by decide +kernel) (by decide +kernel) (by decide +kernel), ?_⟩
                refine ⟨_, rfl, x, T.cH, dx, _, _, rfl, s15 _ _ h1, T.cl, T.n_family, fs_family, a, _, rfl, .inl (.inl (.inl (s15 _ _ f2))), ?_⟩
                refine ⟨_, rfl, _, rfl, _, rfl, _, rfl, by show 4 ≤ sizeLine; decide, fun t nt => ?_⟩
                have s6 : Same H (upd H5 t (.tup [y1, y2, y3, y4])) := s15.trans (same_upd nt)
                have et : upd H5 t (.tup [y1, y2, y3, y4]) t = some (.tup (perV (newPer d1 d2 d3 d4))) := by
                  rw [upd_same, (td_name t1 e1).1, td_sexV t2 e3, td_par t3 e4, td_par t4 e5]
                  rfl
                generalize upd H5 t (.tup [y1, y2, y3, y4]) = H6 at s6 et ⊢
                refine ⟨by rw [List.length_append, List.length_map, f3, sizeLine_eq]; show ps.length + 1 ≤ _; omega, fun b nb => ?_⟩
                have s7 : Same H (upd H6 b (.tup (Ts.map V.ref ++ [V.ref t]))) := s6.trans (same_upd nb)
                have eb : upd H6 b (.tup (Ts.map V.ref ++ [V.ref t])) b = some (.tup (Ts.map V.ref ++ [V.ref t])) := upd_same
                have et7 := same_upd (o := .tup (Ts.map V.ref ++ [V.ref t])) nb _ _ et
                generalize upd H6 b (.tup (Ts.map V.ref ++ [V.ref t])) = H7 at s7 eb et7 ⊢
                refine ⟨_, rfl, x, T.cH, dx, _, _, rfl, s7 _ _ h1, T.cl, T.n_speech, fs_speech, ?_⟩
                refine ⟨x, l, st, ⟨ps, sd⟩, ⟨ps ++ [newPer d1 d2 d3 d4], sd⟩, .ref b, sv, rfl, hh.mono s7, hn, ⟨FamAt.snoc (a := a) f3 f4 s7 et7 eb, hg rfl, td_tups hm.sp (same_tups s7), hm.ok⟩, fun H8 k8 hh8 => ?_⟩
                exact qs rfl _ ((same_keep s7).trans k8) hh8
            · rw [if_pos e5] at qe
              exact qe 9 rfl _ (s14.trans s5)
          · rw [if_pos e4] at qe
            exact qe 9 rfl _ (s13.trans s4)
        · rw [if_pos e3] at qe
          exact qe 3 rfl _ (s12.trans s3)
end
end K17

set_option maxHeartbeats 8000000
namespace K17
open PySem PySem.Spec PyProof.Rows L2 Kin
section
variable {P : Program} {w : World} {K : PySem.W.Frag} {mg : Str → Option Value} {base : Heap}
theorem namesD_get {ps : List Per} {d : PyData} (h : namesD ps d = true) : ∃ (i : Nat) (p : Per), ps[i]? = some p ∧ d = .str p.name := by
  cases d with
  | str z =>
    obtain ⟨p, hp, e⟩ := List.any_eq_true.mp (show (ps.any fun p => decide (p.name = z)) = true from h)
    obtain ⟨i, hi, e2⟩ := List.mem_iff_getElem.mp hp
    exact ⟨i, p, by rw [List.getElem?_eq_getElem hi, e2], by rw [of_decide_eq_true e]⟩
  | _ => cases h
theorem td_strV {L : Bool} {H : Hp} {y : V} {z : Str} (td : Td L H y (.str z)) : y = .str z := by cases td; rfl
def sp_found (T : TxtH K mg) : Sp := fun vs H Q E => ∃ (x l : Addr) (st : List Mom) (m : Mom) (y1 y2 : V) (d1 d2 : PyData), vs = [.ref x, y1, y2] ∧ HouseS T.cH H x l st m ∧ st.length ≤ 1000 ∧ Td true H y1 d1 ∧ Td true H y2 d2 ∧
  (namesD m.ps d1 = false → ∀ H', Same H H' → E (.ref T.aN) none H') ∧ (∀ i p, m.ps[i]? = some p → d1 = .str p.name →
    (noPar m.ps i p d2 = true → ∀ H', Same H H' → E (.ref T.aPa) none H') ∧ (noPar m.ps i p d2 = false → ∀ H', Keep x l H H' → HouseS T.cH H' x l (st ++ [m]) ⟨foundPs m.ps i p d2, m.sd⟩ → Q .non H'))
theorem ok_found (T : TxtH K mg) : FnOk P w K mg base (L2.CX P w) 3 T.a_m_found T.f_m_found ["self", "name", "parent"] (sp_found T) := by
  have G_need_name : FnOk P w K mg base (L2.CX P w) 1 T.a_need_name T.f_need_name ["family", "thing"] (sp_need_name T.aN) := ok_need_name T.toTxt
  have G_with_parent : FnOk P w K mg base (L2.CX P w) 2 T.a_with_parent T.f_with_parent ["family", "name", "parent"] (sp_with_parent T.aPa) := ok_with_parent T.toTxt
  have G_become : FnOk P w K mg base CX0 1 T.a_m_become T.f_m_become ["self", "family", "speech"] (sp_become T.cH) := ok_become T
  refine T.F_m_found.okX sc_m_found (fun vs H Q E h => ?_) (fun cdv A outer s H vs Q E hr h => ?_)
  · obtain ⟨_, _, _, _, _, _, _, _, rfl, _⟩ := h
    rfl
  · obtain ⟨x, l, st, ⟨ps, sd⟩, y1, y2, d1, d2, rfl, hh, hn, t1, t2, q1, q2⟩ := h
    dsimp only at q1 q2
    refine ⟨_, (pss_cons (ps_expr (pe_callS G_need_name (hr.mono (by decide)) rfl T.d_need_name.g T.d_need_name.F.kp T.d_need_name.b (fun σ => passAt (takes_of rfl rfl rfl rfl) σ) (pa_cons (pe_fld (pv 0) rfl) (pa_cons (pv 1) pa_nil))))
      (pss_one (ps_expr (pe_meth (pv 0) T.cl T.h_m_become G_become (hr.mono (by decide)) T.b_m_become .nil pass0 (pa_cons (pe_callS G_with_parent (hr.mono (by decide)) rfl T.d_with_parent.g T.d_with_parent.F.kp T.d_with_parent.b (fun σ => passAt (takes_of rfl rfl rfl rfl) σ) (pa_cons (pe_fld (pv 0) rfl) (pa_cons (pv 1) (pa_cons (pv 2) pa_nil)))) (pa_cons (pe_fld (pv 0) rfl) pa_nil)))))), ?_⟩
    obtain ⟨dx, fv, sv, ts, h1, hm, hL, hP⟩ := hh.ex
    have hf : FamAt H fv ps := hm.fam
    have hap : Apart ps := hm.g.ap
    have h40 : ps.length ≤ 40 := hm.g.most
    refine ⟨_, rfl, x, T.cH, dx, _, _, rfl, h1, T.cl, T.n_family, fs_family, _, rfl, fv, y1, ps, d1, rfl, hf, h40, t1, fun H1 s1 => ⟨fun e => ?_, fun e => q1 e H1 s1⟩⟩
    obtain ⟨i, p, hp, rfl⟩ := namesD_get e
    obtain rfl := td_strV t1
    obtain ⟨qa, qb⟩ := q2 i p hp rfl
    refine ⟨_, rfl, x, dx, _, rfl, s1 _ _ h1, fs_no (by decide +kernel) (by decide +kernel) (by decide +kernel), ?_⟩
    refine ⟨_, rfl, x, T.cH, dx, _, _, rfl, s1 _ _ h1, T.cl, T.n_family, fs_family, _, rfl, _, rfl, fv, y2, ps, i, p, d2, rfl, hf.mono s1, h40, hap, hp, t2.mono s1, fun h H2 s2 => qa h H2 (s1.trans s2), fun h H2 fv' s2 f2 => ?_⟩
    have s12 := s1.trans s2
    refine ⟨_, rfl, x, T.cH, dx, _, _, rfl, s12 _ _ h1, T.cl, T.n_speech, fs_speech, ?_⟩
    refine ⟨x, l, st, ⟨ps, sd⟩, ⟨foundPs ps i p d2, sd⟩, fv', sv, rfl, hh.mono s12, hn, ⟨f2, FamG.found hm.g hp h, td_tups hm.sp (same_tups s12), hm.ok⟩, fun H3 k3 hh3 => ?_⟩
    exact qb h H3 ((same_keep s12).trans k3) hh3
def sp_speak (T : TxtH K mg) : Sp := fun vs H Q E => ∃ (x l : Addr) (st : List Mom) (m : Mom) (y : V) (d : PyData), vs = [.ref x, y] ∧ HouseS T.cH H x l st m ∧ st.length ≤ 1000 ∧ Td false H y d ∧ speechD d = true ∧ ∀ H', Keep x l H H' → HouseS T.cH H' x l (st ++ [m]) ⟨m.ps, d⟩ → Q .non H'
theorem ok_speak (T : TxtH K mg) : FnOk P w K mg base (L2.CX P w) 6 T.a_m_speak T.f_m_speak ["self", "speech"] (sp_speak T) := by
  have G_need_speech : FnOk P w K mg base (L2.CX P w) 5 T.a_need_speech T.f_need_speech ["thing"] (sp_need speechD T.aS) := ok_need_speech T.toTxt
  have G_become : FnOk P w K mg base CX0 1 T.a_m_become T.f_m_become ["self", "family", "speech"] (sp_become T.cH) := ok_become T
  refine T.F_m_speak.okX sc_m_speak (fun vs H Q E h => ?_) (fun cdv A outer s H vs Q E hr h => ?_)
  · obtain ⟨_, _, _, _, _, _, rfl, _⟩ := h
    rfl
  · obtain ⟨x, l, st, ⟨ps, sd⟩, y, d, rfl, hh, hn, td, hd, q⟩ := h
    dsimp only at q
    refine ⟨_, (pss_cons (ps_expr (pe_callS G_need_speech (hr.mono (by decide)) rfl T.d_need_speech.g T.d_need_speech.F.kp T.d_need_speech.b (fun σ => passAt (takes_of rfl rfl rfl rfl) σ) (pa_cons (pv 1) pa_nil)))
      (pss_one (ps_expr (pe_meth (pv 0) T.cl T.h_m_become G_become (hr.mono (by decide)) T.b_m_become .nil pass0 (pa_cons (pe_fld (pv 0) rfl) (pa_cons (pv 1) pa_nil)))))), ?_⟩
    obtain ⟨dx, fv, sv, ts, h1, hm, hL, hP⟩ := hh.ex
    refine ⟨_, rfl, y, d, rfl, td.lists, fun H1 s1 => ⟨fun _ => ?_, fun h => by rw [hd] at h; cases h⟩⟩
    refine ⟨_, rfl, x, dx, _, rfl, s1 _ _ h1, fs_no (by decide +kernel) (by decide +kernel) (by decide +kernel), ?_⟩
    refine ⟨_, rfl, x, T.cH, dx, _, _, rfl, s1 _ _ h1, T.cl, T.n_family, fs_family, _, rfl, ?_⟩
    refine ⟨x, l, st, ⟨ps, sd⟩, ⟨ps, d⟩, fv, y, rfl, hh.mono s1, hn, ⟨hm.fam.mono s1, hm.g, td_tups td (same_tups s1), hd⟩, fun H3 k3 hh3 => ?_⟩
    exact q H3 ((same_keep s1).trans k3) hh3
def sp_undo (T : TxtH K mg) : Sp := fun vs H Q E => ∃ (x l : Addr) (st : List Mom) (m : Mom), vs = [.ref x] ∧ HouseS T.cH H x l st m ∧ (st = [] → ∀ H', Same H H' → E (.ref T.aD) none H') ∧ (∀ st' m', st = st' ++ [m'] → ∀ H', Keep x l H H' → HouseS T.cH H' x l st' m' → Q .non H')
theorem ok_undo (T : TxtH K mg) : FnOk P w K mg base (L2.CX P w) 1 T.a_m_undo T.f_m_undo ["self"] (sp_undo T) := by
  refine T.F_m_undo.okX sc_m_undo (fun vs H Q E h => ?_) (fun cdv A outer s H vs Q E hr h => ?_)
  · obtain ⟨_, _, _, _, rfl, _⟩ := h
    rfl
  · obtain ⟨x, l, st, m, rfl, hh, q1, q2⟩ := h
    refine ⟨_, (pss_cons (ps_if (pt_not (pt_truth (pe_fld (pv 0) rfl) (fun _ => rfl)))
        (pss_one (ps_raise rfl (takes_of rfl rfl rfl rfl) (pmk_own PySem.F.excBase_ValueError T.c_NoDeed.x T.c_NoDeed.g T.c_NoDeed.k (raises_own T.c_NoDeed.b T.c_NoDeed.t) (by exact rfl))))
        pss_nil)
      (pss_one (ps_asg (pe_bm0 PySem.F.plainAttrs_list PySem.F.slot_list_pop PySem.F.type_list_pop mt_pop (pe_fld (pv 0) rfl)) (pg_tup rfl (pgs_cons (pg_fld (pv 0)) (pgs_cons (pg_fld (pv 0)) pgs_nil)))))), ?_⟩
    obtain ⟨dx, fv, sv, ts, h1, hm, hL, hP⟩ := hh.ex
    have nlx : l ≠ x := ne_of hL h1 (by intro q; cases q)
    refine ⟨_, rfl, x, T.cH, dx, _, _, rfl, h1, T.cl, T.n_past, fs_past, _, .inl ⟨_, .inl (.inl hL), rfl⟩, ?_⟩
    by_cases hst : st = []
    · have hts : ts = [] := List.length_eq_zero_iff.mp (by rw [hP.1, hst]; rfl)
      subst hts
      exact iteT (q1 hst _ (Same.refl _))
    · obtain ⟨ts', t, st', m', fv', sv', rfl, rfl, et, hm', hP'⟩ := hP.last hst
      have e0 : (!(List.map V.ref (ts' ++ [t])).isEmpty) = true := by
        rw [List.map_append]
        cases ts' <;> rfl
      rw [e0]
      refine iteF ?_
      refine ⟨_, rfl, x, T.cH, dx, _, _, rfl, h1, T.cl, T.n_past, fs_past, .inl ⟨rfl, _, SqL.of hL⟩, ?_⟩
      refine ⟨l, _, .ref t, rfl, rfl, hL, by
        rw [List.map_append, List.length_append]
        show (List.map V.ref ts' ++ [V.ref t])[(List.map V.ref ts').length + 1 - 1]? = _
        rw [Nat.add_sub_cancel, List.getElem?_append_right (Nat.le_refl _), Nat.sub_self]
        rfl, ?_⟩
      have ed : (List.map V.ref (ts' ++ [t])).dropLast = ts'.map V.ref := by
        rw [List.map_append]
        exact List.dropLast_concat
      rw [ed]
      have ntl : t ≠ l := fun z => by rw [z, hL] at et; cases et
      have ntx : t ≠ x := fun z => by rw [z, h1] at et; cases et
      refine ⟨t, _, rfl, .inl (.inl (by rw [upd_ne ntl]; exact et)), rfl, _, _, rfl, ?_⟩
      have e2 : upd H l (.lst (ts'.map V.ref)) x = some (.ins T.cH dx (fs fv sv l)) := by rw [upd_ne (Ne.symm nlx)]; exact h1
      refine ⟨_, rfl, x, T.cH, dx, _, rfl, e2, T.cl, T.n_family, (by show 3 < 1000; decide), _, _, rfl, ?_⟩
      refine ⟨_, rfl, x, T.cH, dx, _, rfl, upd_same, T.cl, T.n_speech, (by rw [put_family]; show 3 < 1000; decide), rfl, ?_⟩
      have kp : Keep x l H (upd (upd (upd H l (.lst (ts'.map V.ref))) x (.ins T.cH dx (putF "_family" fv' (fs fv sv l)))) x (.ins T.cH dx (putF "_speech" sv' (putF "_family" fv' (fs fv sv l))))) := fun b o n1 n2 e => by
        rw [upd_ne n1, upd_ne n1, upd_ne n2]
        exact e
      have tp := kp.tups h1 hL
      refine q2 st' m' rfl _ kp ⟨⟨dx, fv', sv', ts', ?_, hm'.tups tp, ?_, hP'.tups tp⟩⟩
      · rw [upd_same, put_family, put_speech]
      · rw [upd_ne nlx, upd_ne nlx, upd_same]
def sp_fam (T : TxtH K mg) : Sp := fun vs H Q E => ∃ (x l dx : Addr) (fv sv : V), vs = [.ref x] ∧ H x = some (.ins T.cH dx (fs fv sv l)) ∧ Q fv H
theorem ok_m_family (T : TxtH K mg) : FnOk P w K mg base CX0 1 T.a_m_family T.f_m_family ["self"] (sp_fam T) := by
  refine T.F_m_family.ok sc_m_family (fun vs H Q E h => ?_) (fun cdv A outer s H vs Q E hr h => ?_)
  · obtain ⟨_, _, _, _, _, rfl, _⟩ := h
    rfl
  · obtain ⟨x, l, dx, fv, sv, rfl, h1, q⟩ := h
    exact ⟨_, (pss_one (ps_ret (pe_fld (pv 0) rfl))), _, rfl, x, T.cH, dx, _, _, rfl, h1, T.cl, T.n_family, fs_family, q⟩
def sp_spe (T : TxtH K mg) : Sp := fun vs H Q E => ∃ (x l dx : Addr) (fv sv : V), vs = [.ref x] ∧ H x = some (.ins T.cH dx (fs fv sv l)) ∧ Q sv H
theorem ok_m_speech (T : TxtH K mg) : FnOk P w K mg base CX0 1 T.a_m_speech T.f_m_speech ["self"] (sp_spe T) := by
  refine T.F_m_speech.ok sc_m_speech (fun vs H Q E h => ?_) (fun cdv A outer s H vs Q E hr h => ?_)
  · obtain ⟨_, _, _, _, _, rfl, _⟩ := h
    rfl
  · obtain ⟨x, l, dx, fv, sv, rfl, h1, q⟩ := h
    exact ⟨_, (pss_one (ps_ret (pe_fld (pv 0) rfl))), _, rfl, x, T.cH, dx, _, _, rfl, h1, T.cl, T.n_speech, fs_speech, q⟩
def sp_len (T : TxtH K mg) : Sp := fun vs H Q E => ∃ (x l : Addr) (st : List Mom) (m : Mom), vs = [.ref x] ∧ HouseS T.cH H x l st m ∧ Q (.int (m.ps.length : Int)) H
theorem ok_m_len (T : TxtH K mg) : FnOk P w K mg base CX0 1 T.a_m_len T.f_m_len ["self"] (sp_len T) := by
  refine T.F_m_len.ok sc_m_len (fun vs H Q E h => ?_) (fun cdv A outer s H vs Q E hr h => ?_)
  · obtain ⟨_, _, _, _, rfl, _⟩ := h
    rfl
  · obtain ⟨x, l, st, m, rfl, hh, q⟩ := h
    refine ⟨_, (pss_one (ps_ret (pe_callB call_len_seq (by rfl) T.n_len boot_len (pa_cons (pe_fld (pv 0) rfl) pa_nil)))), ?_⟩
    obtain ⟨dx, fv, sv, ts, h1, hm, hL, hP⟩ := hh.ex
    obtain ⟨a, Ts, rfl, f2, f3, f4⟩ := hm.fam.ex
    refine ⟨_, rfl, x, T.cH, dx, _, _, rfl, h1, T.cl, T.n_family, fs_family, a, _, rfl, .inr (.inl (.inl f2)), ?_⟩
    rw [List.length_map, f3]
    exact q
theorem put_past {f s : V} {l k : Addr} : putF "_past" (.ref k) (fs f s l) = fs f s k := by
  unfold fs
  show (if ("_family" : Str) = "_past" then _ else (("_family" : Str), f) :: (if ("_speech" : Str) = "_past" then _ else (("_speech" : Str), s) :: (if ("_past" : Str) = "_past" then _ else _))) = _
  rw [if_neg n2, if_neg n3, if_pos rfl]
def sp_twin (T : TxtH K mg) : Sp := fun vs H Q E => ∃ (x l : Addr) (st : List Mom) (m : Mom), vs = [.ref x] ∧ HouseS T.cH H x l st m ∧ ∀ H' y k, Same H H' → H y = none → H k = none → HouseS T.cH H' y k st m → Q (.ref y) H'
theorem ok_twin (T : TxtH K mg) : FnOk P w K mg base CX0 8 T.a_m_twin T.f_m_twin ["self"] (sp_twin T) := by
  have G_init := ok_init (P := P) (w := w) (base := base) T
  refine T.F_m_twin.ok sc_m_twin (fun vs H Q E h => ?_) (fun cdv A outer s H vs Q E hr h => ?_)
  · obtain ⟨_, _, _, _, rfl, _⟩ := h
    rfl
  · obtain ⟨x, l, st, m, rfl, hh, q⟩ := h
    refine ⟨_, (pss_cons (ps_set (i := 1) sc_m_twin.nd rfl (Or.inl rfl) (pe_make T.mkH G_init (hr.mono (by decide)) rfl T.g_House T.b_m_init .nil passL (pa_cons (pe_fld (pv 0) rfl) pa_nil)))
      (pss_cons (ps_fld (pv 1) (pe_fld (pv 0) rfl) rfl) (pss_cons (ps_fld (pv 1) (pe_callTy call_list_of (by rfl) T.n_list b_list (pa_cons (pe_fld (pv 0) rfl) pa_nil)) rfl) (pss_one (ps_ret (pv 1)))))), ?_⟩
    obtain ⟨dx, fv, sv, ts, h1, hm, hL, hP⟩ := hh.ex
    refine ⟨_, rfl, x, T.cH, dx, _, _, rfl, h1, T.cl, T.n_speech, fs_speech, fun y dy ny ndy ne => ?_⟩
    have c1 := same_upd (o := HO.own y) ndy
    have ny2 : (upd H dy (.own y)) y = none := by rw [upd_ne (Ne.symm ne)]; exact ny
    have c2 : Same H (upd (upd H dy (.own y)) y (.ins T.cH dy [])) := c1.trans (same_upd ny2)
    have c3 : upd (upd H dy (.own y)) y (.ins T.cH dy []) y = some (.ins T.cH dy []) := upd_same
    have yn : ∀ b o, H b = some o → b ≠ y := fun b o e z => by rw [z, ny] at e; cases e
    generalize upd (upd H dy (.own y)) y (.ins T.cH dy []) = H1 at c2 c3 ⊢
    refine ⟨y, dy, sv, m.sd, rfl, c3, td_tups hm.sp (same_tups c2), hm.ok, fun H2 k0 k2 h0 nk0 => ⟨rfl, ?_⟩⟩
    have s2 : Same H H2 := fun b o e => k2 b o (yn b o e) (c2 b o e)
    obtain ⟨dy', fv0, sv0, ts0, g1, hm0, gL, _⟩ := h0.ex
    have x2 := s2 _ _ h1
    have yx : x ≠ y := yn _ _ h1
    have hk : H k0 = none := by
      cases e : H k0 with
      | none => rfl
      | some o => rw [c2 _ _ e] at nk0; cases nk0
    have t2 : Tups H H2 := same_tups s2
    refine ⟨_, rfl, x, T.cH, dx, _, _, rfl, x2, T.cl, T.n_family, fs_family, _, rfl, y, T.cH, dy', _, rfl, g1, T.cl, T.n_family, (by show 3 < 1000; decide), ?_⟩
    rw [put_family]
    have g2 : upd H2 y (.ins T.cH dy' (fs fv sv0 k0)) y = some (.ins T.cH dy' (fs fv sv0 k0)) := upd_same
    have x3 : upd H2 y (.ins T.cH dy' (fs fv sv0 k0)) x = some (.ins T.cH dx (fs fv sv l)) := by rw [upd_ne yx]; exact x2
    have l3 : upd H2 y (.ins T.cH dy' (fs fv sv0 k0)) l = some (.lst (ts.map V.ref)) := by rw [upd_ne (yn _ _ hL)]; exact s2 _ _ hL
    have s3 : Same H (upd H2 y (.ins T.cH dy' (fs fv sv0 k0))) := fun b o e => by
      rw [upd_ne (yn b o e)]
      exact s2 b o e
    have t3 : Tups H2 (upd H2 y (.ins T.cH dy' (fs fv sv0 k0))) := fun b xs e => by
      rw [upd_ne (fun z => by rw [z, g1] at e; cases e)]
      exact e
    generalize upd H2 y (.ins T.cH dy' (fs fv sv0 k0)) = H3 at g2 x3 l3 s3 t3 ⊢
    refine ⟨_, rfl, x, T.cH, dx, _, _, rfl, x3, T.cl, T.n_past, fs_past, l, _, rfl, .inl (.inl (.inl l3)), fun k nk => ?_⟩
    have g3 := same_upd (o := .lst (ts.map V.ref)) nk _ _ g2
    refine ⟨_, rfl, y, T.cH, dy', _, rfl, g3, T.cl, T.n_past, (by show 3 < 1000; decide), ?_⟩
    rw [put_past]
    have kn : H k = none := s3.free nk
    have ky : k ≠ y := fun z => by rw [z, g2] at nk; cases nk
    have s4 : Same H (upd (upd H3 k (.lst (ts.map V.ref))) y (.ins T.cH dy' (fs fv sv0 k))) := fun b o e => by
      rw [upd_ne (yn b o e), upd_ne (ne_of_none e kn)]
      exact s3 b o e
    have t5 : Tups H2 (upd (upd H3 k (.lst (ts.map V.ref))) y (.ins T.cH dy' (fs fv sv0 k))) := fun b xs e => by
      have e3 := t3 b xs e
      rw [upd_ne (fun z => by rw [z, g2] at e3; cases e3), upd_ne (ne_of_none e3 nk)]
      exact e3
    refine ⟨_, rfl, ?_⟩
    have t4 := same_tups s4
    refine q _ y k s4 ny kn ⟨⟨dy', fv, sv0, ts, upd_same, ⟨hm.fam.tups t4, hm.g, td_tups hm0.sp t5, hm.ok⟩, ?_, hP.tups t4⟩⟩
    rw [upd_ne ky, upd_same]
end
end K17

set_option maxHeartbeats 8000000
namespace K17
open PySem PySem.Spec PyProof.Rows L2 Kin
/-- told is the refusal of that number -/
def Refd (H : Hp) (Q : VK) (j : Nat) : Prop := ∀ H' t, Same H H' → H' t = some (.tup [.str "refused", .int (j : Nat)]) → Q (.ref t) H'
theorem Refd.mono {H H' : Hp} {Q : VK} {j : Nat} (r : Refd H Q j) (s : Same H H') : Refd H' Q j := fun H2 t s2 e => r H2 t (s.trans s2) e
/-- the refusals that a house's deeds tell -/
def Told (j : Nat) : Prop := j = 2 ∨ j = 3 ∨ j = 9 ∨ j = 10 ∨ j = 11 ∨ j = 12
structure Js (K : PySem.W.Frag) (mg : Str → Option Value) (C : Cls K mg) (T : TxtH K mg) (aK : Addr) : Prop where
  js : ∀ j, Told j → IsJ K mg C (exc T j) j ∧ PySem.W.exmOne K (.ref (exc T j)) (.ref aK) = some true
  gK : mg "KinError" = some (.ref aK)
theorem bornNo_told {ps : List Per} {d1 d2 d3 d4 : PyData} {j : Nat} (h : bornNo ps d1 d2 d3 d4 = some j) : Told j := by
  unfold bornNo at h
  unfold Told
  repeat (split at h; (first | (cases h; decide) | skip))
  cases h
/-- no new names but the one that is born -/
def Names (m m' : Mom) (k : Nat) (d1 : PyData) : Prop := ∀ q ∈ m'.ps, (∃ q0 ∈ m.ps, q0.name = q.name) ∨ (k = 0 ∧ d1 = .str q.name)
theorem names_born {m : Mom} {d1 d2 d3 d4 : PyData} (h : bornNo m.ps d1 d2 d3 d4 = none) : Names m ⟨m.ps ++ [newPer d1 d2 d3 d4], m.sd⟩ 0 d1 := by
  intro q hq
  rcases List.mem_append.mp hq with hq | hq
  · exact .inl ⟨q, hq, rfl⟩
  · rw [List.mem_singleton.mp hq]
    refine .inr ⟨rfl, ?_⟩
    unfold bornNo at h
    cases d1 with
    | str z => rfl
    | _ =>
      rw [if_pos (show nameD _ = false from rfl)] at h
      cases h
theorem names_found {m : Mom} {i k : Nat} {p : Per} {d1 d2 : PyData} (hp : m.ps[i]? = some p) : Names m ⟨foundPs m.ps i p d2, m.sd⟩ k d1 := by
  intro q hq
  have hq : q ∈ foundPs m.ps i p d2 := hq
  unfold foundPs at hq
  split at hq
  · exact .inl ⟨q, hq, rfl⟩
  · next b _ =>
    rcases List.mem_or_eq_of_mem_set hq with hq | rfl
    · exact .inl ⟨q, hq, rfl⟩
    · refine .inl ⟨p, List.mem_of_getElem? hp, ?_⟩
      unfold addPar
      cases b <;> rfl
def sp_law_do {K : PySem.W.Frag} {mg : Str → Option Value} (T : TxtH K mg) : Sp := fun vs H Q _ => ∃ (x l : Addr) (k : Nat) (st : List Mom) (m : Mom) (y1 y2 y3 y4 : V) (d1 d2 d3 d4 : PyData), vs = [.ref x, .int (k : Nat), y1, y2, y3, y4] ∧ k < 4 ∧ HouseS T.cH H x l st m ∧ st.length ≤ 1000 ∧
  Td true H y1 d1 ∧ Td true H y2 d2 ∧ Td true H y3 d3 ∧ Td true H y4 d4 ∧ (k = 2 → Td false H y1 d1 ∧ speechD d1 = true) ∧
  (∀ j, (k = 3 → st = [] ∧ j = 12) → (k = 2 → False) → Refd H Q j) ∧ (k ≠ 3 → ∀ H' m', Keep x l H H' → HouseS T.cH H' x l (st ++ [m]) m' → Names m m' k d1 → Q .non H') ∧
  (k = 3 → ∀ st' m', st = st' ++ [m'] → ∀ H', Keep x l H H' → HouseS T.cH H' x l st' m' → Q .non H')
section
variable {P : Program} {w : World} {K : PySem.W.Frag} {mg : Str → Option Value} {base : Heap}
theorem ok_law_do {aK : Addr} (T : TxtH K mg) (C : Cls K mg) (J : Js K mg C T aK) : FnOk P w K mg base CX0 7 T.a_law_do T.f_law_do ["_law_house", "_law_what", "_law_one", "_law_other", "_law_third", "_law_fourth"] (sp_law_do T) := by
  have GW : FnP P w K mg base 1 T.a_law_which T.f_law_which ["_law_e"] (sp_which K mg C) := ok_which C T.n_isinstance T.d_law_which
  have G_born := ok_born (P := P) (w := w) (base := base) T
  have G_found := ok_found (P := P) (w := w) (base := base) T
  have G_speak := ok_speak (P := P) (w := w) (base := base) T
  have G_undo := ok_undo (P := P) (w := w) (base := base) T
  refine T.d_law_do.F.ok sc_law_do (fun vs H Q E h => ?_) (fun cdv A outer s H vs Q E hr h => ?_)
  · obtain ⟨_, _, _, _, _, _, _, _, _, _, _, _, _, rfl, _⟩ := h
    rfl
  · obtain ⟨x, l, k, st, m, y1, y2, y3, y4, d1, d2, d3, d4, rfl, hk, hh, hn, t1, t2, t3, t4, h2, q, qd, qu⟩ := h
    refine ⟨_, (pss_one (ps_try_as (i := 6) rfl rfl sc_law_do.nd rfl rfl ⟨rfl, by decide, .inl J.gK⟩ takes0 (fun W pn xe tk _ =>
        (pss_cons (ps_if (pt_cmpR op_eq (pv 1) pe_int (nomark _))
          (pss_one (ps_ret (pe_methX (pv 0) T.cl T.h_m_born G_born (hr.mono (by decide)) T.b_m_born .nil (fun σ => passAt tk σ) (pa_cons (pv 2) (pa_cons (pv 3) (pa_cons (pv 4) (pa_cons (pv 5) pa_nil)))))))
          pss_nil)
        (pss_cons (ps_if (pt_cmpR op_eq (pv 1) pe_int (nomark _))
          (pss_one (ps_ret (pe_methX (pv 0) T.cl T.h_m_found G_found (hr.mono (by decide)) T.b_m_found .nil (fun σ => passAt tk σ) (pa_cons (pv 2) (pa_cons (pv 3) pa_nil)))))
          pss_nil)
        (pss_cons (ps_if (pt_cmpR op_eq (pv 1) pe_int (nomark _))
          (pss_one (ps_ret (pe_methX (pv 0) T.cl T.h_m_speak G_speak (hr.mono (by decide)) T.b_m_speak .nil (fun σ => passAt tk σ) (pa_cons (pv 2) pa_nil))))
          pss_nil)
        (pss_cons (ps_if (pt_cmpR op_eq (pv 1) pe_int (nomark _))
          (pss_one (ps_ret (pe_methX0 (pv 0) T.cl T.h_m_undo G_undo (hr.mono (by decide)) T.b_m_undo .nil (fun σ => passAt tk σ))))
          pss_nil)
        pss_no))))) (fun a oe cls d pn hz hf =>
        (pss_one (ps_ret (pe_callP GW (show L2H.RoomH 1 _ from ⟨(hr.mono (j := 1) (by decide)).dp, (hr.mono (j := 1) (by decide)).un⟩) List.mem_cons_self hz hf rfl T.d_law_which.g T.d_law_which.F.kp T.d_law_which.b (pa_cons (pv 6) pa_nil))))))), ?_⟩
    have catch_ : ∀ {j : Nat} {H1 : Hp} {xs : List V}, xs.length = 6 → Told j → Refd H1 Q j →
        WE (wAs K (.ref aK) 6 (fun a cls d => tRet (tCallP a cls d (sp_which K mg C) (tCons (tVar 6) tNil))) (fun _ _ _ _ => False) { nx := fun _ H' => Q .non H', rt := Q }) (L2.start N_law_do xs) (.ref (exc T j)) none H1 := by
      intro j H1 xs hx hj hq
      refine ⟨true, (J.js j hj).2, fun _ a ha => ?_, fun z => Bool.noConfusion z⟩
      match xs, hx with
      | [x1, x2, x3, x4, x5, x6], _ => exact ⟨rfl, _, rfl, exc T j, j, rfl, (J.js j hj).1, rfl, fun H' t s2 _ e => hq H' t s2 e⟩
    obtain ⟨dx, fv, sv, ts, h1, hm, hL, hP⟩ := hh.ex
    have no : ∀ m : Str, (m == "_family") = false → (m == "_speech") = false → (m == "_past") = false → (fs fv sv l).lookup m = none := fun m a b c => fs_no a b c
    refine ⟨_, rfl, rfl, _, rfl, ?_⟩
    match k, hk, h2, q, qd, qu with
    | 0, _, _, q, qd, _ =>
      have q : ∀ j, Refd H Q j := fun j => q j (fun z => by cases z) (fun z => by cases z)
      refine iteT ?_
      refine ⟨_, rfl, x, dx, _, rfl, h1, no _ (by decide +kernel) (by decide +kernel) (by decide +kernel), ?_⟩
      refine ⟨_, rfl, _, rfl, _, rfl, _, rfl, x, l, st, m, y1, y2, y3, y4, d1, d2, d3, d4, rfl, hh, hn, t1, t2, t3, t4, fun j' e H' s' => ?_, fun hno H' k' hh' => ?_⟩
      · exact catch_ rfl (bornNo_told e) ((q j').mono s')
      · exact qd (by decide) H' _ k' hh' (names_born (by assumption))
    | 1, _, _, q, qd, _ =>
      have q : ∀ j, Refd H Q j := fun j => q j (fun z => by cases z) (fun z => by cases z)
      refine iteF ⟨_, rfl, rfl, _, rfl, iteT ?_⟩
      refine ⟨_, rfl, x, dx, _, rfl, h1, no _ (by decide +kernel) (by decide +kernel) (by decide +kernel), ?_⟩
      refine ⟨_, rfl, _, rfl, x, l, st, m, y1, y2, d1, d2, rfl, hh, hn, t1, t2, fun _ H' s' => catch_ (j := 2) rfl (by unfold Told; decide) ((q 2).mono s'), fun i p hp e => ⟨fun _ H' s' => catch_ (j := 9) rfl (by unfold Told; decide) ((q 9).mono s'), fun _ H' k' hh' => qd (by decide) H' _ k' hh' (names_found hp)⟩⟩
    | 2, _, h2, q, qd, _ =>
      obtain ⟨tf, hs⟩ := h2 rfl
      refine iteF ⟨_, rfl, rfl, _, rfl, iteF ⟨_, rfl, rfl, _, rfl, iteT ?_⟩⟩
      refine ⟨_, rfl, x, dx, _, rfl, h1, no _ (by decide +kernel) (by decide +kernel) (by decide +kernel), ?_⟩
      exact ⟨_, rfl, x, l, st, m, y1, d1, rfl, hh, hn, tf, hs, fun H' k' hh' => qd (by decide) H' _ k' hh' (fun q hq => .inl ⟨q, hq, rfl⟩)⟩
    | 3, _, _, q, _, qu =>
      refine iteF ⟨_, rfl, rfl, _, rfl, iteF ⟨_, rfl, rfl, _, rfl, iteF ⟨_, rfl, rfl, _, rfl, iteT ?_⟩⟩⟩
      refine ⟨_, rfl, x, dx, _, rfl, h1, no _ (by decide +kernel) (by decide +kernel) (by decide +kernel), ?_⟩
      exact ⟨x, l, st, m, rfl, hh, fun hst H' s' => catch_ (j := 12) rfl (by unfold Told; decide) ((q 12 (fun _ => ⟨hst, rfl⟩) (fun z => by cases z)).mono s'), fun st' m' e H' k' hh' => qu rfl st' m' e H' k' hh'⟩
end
end K17

set_option maxHeartbeats 8000000
namespace K17
open PySem PySem.Spec PyProof.Rows L2 Kin
theorem b_dict : bootBuiltins "dict" = some (.type "dict") := by decide +kernel
def tens : List Str := ["a", "b", "c", "d", "e", "f", "g", "h", "i", "j"]
theorem tens_zz : ("zz" : Str) ∉ tens := by decide +kernel
theorem tens_len : ∀ z ∈ tens, z.length ≤ 1000 ∧ PyData.strOk z = true := by decide +kernel
def txts (zs : List Str) : List V := zs.map V.str
theorem flat_txts (zs : List Str) : (txts zs).all flatV = true := by
  unfold txts
  rw [List.all_map]
  exact List.all_eq_true.mpr fun _ _ => rfl
theorem merge_kv {ps : List Per} (h : Apart ps) : mergeK [] (kvOf ps) = kvOf ps := by
  have go : ∀ n : Nat, n ≤ ps.length → mergeK [] (kvOf (ps.take n)) = kvOf (ps.take n) := by
    intro n
    induction n with
    | zero => intro _; rfl
    | succ n ih =>
      intro hn
      have hp : ps[n]? = some ps[n] := List.getElem?_eq_getElem (by omega)
      have e1 : kvOf (ps.take (n + 1)) = kvOf (ps.take n) ++ [(Sum.inr ps[n].name, V.str (sexC ps[n].he))] := by
        unfold kvOf
        rw [List.take_add_one, hp, List.map_append]
        rfl
      have e2 := kvOf_take hp (by rw [val_sex, sexIn_no (h.new hp)]; rfl)
      have e3 : mergeK [] (kvOf (ps.take n) ++ [(Sum.inr ps[n].name, V.str (sexC ps[n].he))]) = putK (mergeK [] (kvOf (ps.take n))) (Sum.inr ps[n].name) (.str (sexC ps[n].he)) := by
        unfold mergeK
        rw [List.foldl_append]
        rfl
      rw [e1, e3, ih (by omega), e2, e1]
  have := go ps.length (Nat.le_refl _)
  rw [List.take_length] at this
  exact this
def isPar : V → Prop
  | .non => True
  | .str z => z.length ≤ 1000
  | _ => False
theorem isPar.td {H : Hp} {v : V} (h : isPar v) : ∃ d, Td true H v d := by
  cases v with
  | non => exact ⟨.none, .non⟩
  | str z => exact ⟨.str z, .str h⟩
  | _ => exact h.elim
theorem seq_if {c : TT} {t u : TS} {B : TS} {D : Ends} {σ : L2.St} {H : Hp} (h : c σ H fun b H1 => if b = true then t { D with nx := B D } σ H1 else u { D with nx := B D } σ H1) : tSeq (tIfS c t u) B D σ H := h
theorem if_go {c : TT} {t u : TS} {D : Ends} {σ : L2.St} {H : Hp} (h : c σ H fun b H1 => if b = true then t D σ H1 else u D σ H1) : tIfS c t u D σ H := h
theorem or_any {t u : TT} {σ : L2.St} {H : Hp} {Q : Bool → Hp → Prop} (R : Hp → Prop) (ht : ∀ Q', (∀ b H', R H' → Q' b H') → t σ H Q') (hu : ∀ H' Q', R H' → (∀ b H2, R H2 → Q' b H2) → u σ H' Q') (qt : ∀ H', R H' → Q true H') (qf : ∀ H', R H' → Q false H') : tOr t u σ H Q :=
  ht _ fun b H' r => by
    cases b with
    | true => exact iteT (qt H' r)
    | false => exact iteF (hu H' _ r fun b H2 r2 => by
        cases b with
        | true => exact qt H2 r2
        | false => exact qf H2 r2)
/-- what it tells is not asked for, but that nothing that stands changes -/
def Ev (te : TE) (σ : L2.St) (G : Hp) : Prop := ∀ Q' : VK, (∀ v G', Same G G' → Q' v G') → te σ G Q'
/-- a tuple of up to n things -/
def EvT (n : Nat) (te : TE) (σ : L2.St) (G : Hp) : Prop := ∀ Q' : VK, (∀ b xs G', Same G G' → G' b = some (.tup xs) → xs.length ≤ n → Q' (.ref b) G') → te σ G Q'
def EvO (to : TO) (σ : L2.St) : Prop := ∀ (G : Hp) (Q' : Option Int → Hp → Prop), (∀ o, Q' o G) → to σ G Q'
theorem cutV_len (xs : List V) (lo hi : Option Int) : (cutV xs lo hi).length ≤ xs.length := by
  unfold cutV
  rw [List.length_take, List.length_drop]
  omega
theorem evt_sl {K : PySem.W.Frag} {n : Nat} {te : TE} {tl th : TO} {σ : L2.St} {G : Hp} (h : EvT n te σ G) (hl : EvO tl σ) (hh : EvO th σ) : EvT n (tSl (rSlA K) te tl th) σ G := fun Q' q =>
  h _ fun b xs G1 s1 e1 l1 => hl G1 _ fun lo => hh G1 _ fun hi => ⟨b, xs, rfl, .inl (.inl e1), fun _ => q b xs G1 s1 e1 l1, fun _ p np => q p _ _ (s1.trans (same_upd np)) upd_same (Nat.le_trans (cutV_len xs lo hi) l1)⟩
theorem evt_cat {K : PySem.W.Frag} {n m : Nat} {te tf : TE} {σ : L2.St} {G : Hp} (hn : n + m ≤ 1000) (h : EvT n te σ G) (h' : ∀ G', Same G G' → EvT m tf σ G') : EvT (n + m) (tOp (rCatA K) te tf) σ G := fun Q' q =>
  h _ fun b xs G1 s1 e1 l1 => h' G1 s1 _ fun c ys G2 s2 e2 l2 => ⟨b, c, xs, ys, rfl, rfl, .inl (.inl (s2 _ _ e1)), .inl (.inl e2), by rw [sizeLine_eq]; omega, fun _ => q c ys G2 (s1.trans s2) e2 (by omega), fun _ _ => q b xs G2 (s1.trans s2) (s2 _ _ e1) (by omega), fun _ _ p np => q p _ _ ((s1.trans s2).trans (same_upd np)) upd_same (by rw [List.length_append]; omega)⟩
theorem hide_sub {l : Addr} {H : Hp} : Same (hide l H) H := fun b o e => by
  unfold hide at e
  split at e
  · cases e
  · exact e
theorem dp_txts {K : PySem.W.Frag} {H : Hp} : ∀ zs : List Str, DpAll K H (txts zs) (zs.map PyData.str)
  | [] => .nil
  | z :: zs => .cons (.str z) (dp_txts zs)
theorem sh_txts {zs : List Str} (h : ∀ z ∈ zs, PyData.strOk z = true) : SeqAt.shaped (.list (zs.map PyData.str)) = true := by
  have go : ∀ zs : List Str, (∀ z ∈ zs, PyData.strOk z = true) → PyData.canLayAll0 (zs.map PyData.str) = true ∧ PyData.depthAll (zs.map PyData.str) ≤ 0 := by
    intro zs
    induction zs with
    | nil => exact fun _ => ⟨rfl, Nat.le_refl _⟩
    | cons z zs ih =>
      intro h
      obtain ⟨i1, i2⟩ := ih fun y hy => h y (List.mem_cons_of_mem _ hy)
      refine ⟨?_, ?_⟩
      · show (PyData.strOk z && PyData.canLayAll0 (zs.map PyData.str)) = true
        rw [h z List.mem_cons_self, i1]
        rfl
      · show max 0 (PyData.depthAll (zs.map PyData.str)) ≤ 0
        omega
  obtain ⟨h1, h2⟩ := go zs h
  unfold SeqAt.shaped
  have e1 : (PyData.list (zs.map PyData.str)).canLay0 = true := h1
  have e2 : (PyData.list (zs.map PyData.str)).depth ≤ 64 := by
    show PyData.depthAll (zs.map PyData.str) + 1 ≤ 64
    omega
  rw [e1, Bool.true_and, decide_eq_true e2]
theorem paired_kv {K : PySem.W.Frag} {H : Hp} : ∀ {ps : List Per} {ys : List V}, ys.length = ps.length → (∀ (i : Nat) (y : V), ys[i]? = some y → ∃ u q, y = .ref u ∧ ps[i]? = some q ∧ H u = some (.tup [.str q.name, .str (sexC q.he)])) →
    ∃ us : List Addr, ys = us.map V.ref ∧ Paired (fun p kv => SqT K H p [kV kv.1, kv.2]) us (kvOf ps)
  | [], [], _, _ => ⟨[], rfl, .nil⟩
  | p :: ps, y :: ys, hl, h => by
    obtain ⟨u, q, rfl, hq, e⟩ := h 0 y rfl
    cases hq
    obtain ⟨us, rfl, pr⟩ := paired_kv (ps := ps) (ys := ys) (by simpa using hl) fun i y hy => h (i + 1) y hy
    exact ⟨u :: us, rfl, .cons (.inl (.inl e)) pr⟩
section
variable {P : Program} {w : World} {K : PySem.W.Frag} {mg : Str → Option Value} {base : Heap}
def sp_law_deed (K : PySem.W.Frag) : Sp := fun vs H Q _ => ∃ (a p : Addr) (fv : V) (ns : List Int) (ps : List Per), vs = [.ref a, .ref p, fv] ∧ Stb K H p a (ns.map V.int) ∧ ns.length ≤ 63 ∧ TownAt H p ∧ FamAt H fv ps ∧ FamG ps ∧ (∀ q ∈ ps, q.name ∈ tens) ∧
  ∀ H' r td due (k : Nat) (y1 y2 y3 y4 : V) (d1 d2 d3 d4 : PyData), H' r = some (.tup [.ref td, due]) → H' td = some (.tup [.int (k : Nat), y1, y2, y3, y4]) → k < 2 → (k = 0 → ∃ z, d1 = .str z ∧ z ∈ tens) → Td true H' y1 d1 → Td true H' y2 d2 → Td true H' y3 d3 → Td true H' y4 d4 → TownAt H' p → SameBut p H H' → Q (.ref r) H'
theorem ok_law_deed (T : Txt K mg) : FnOk P w K mg base CX0 3 T.a_law_deed T.f_law_deed ["_law_script", "_law_town", "_law_family_here"] (sp_law_deed K) := by
  have G_law_pick : FnOk P w K mg base CX0 2 T.a_law_pick T.f_law_pick ["_law_script", "_law_town", "_law_some"] (sp_pick K) := ok_pick T
  have G_law_draw : FnOk P w K mg base CX0 1 T.a_law_draw T.f_law_draw ["_law_script", "_law_town", "_law_many"] (sp_draw K) := ok_draw T
  refine T.d_law_deed.F.ok sc_law_deed (fun vs H Q E h => ?_) (fun cdv A outer s H vs Q E hr h => ?_)
  · obtain ⟨a, p, fv, ns, ps, rfl, _⟩ := h
    rfl
  · obtain ⟨a, p, fv, ns, ps, rfl, hB, hlen, hT0, fam, hg, hten, q⟩ := h
    refine ⟨_, (pss_cons (ps_setLc (i := 3) (own := [("_law_one", 11)]) (g := gName 11) (tt := tYes) rfl sc_law_deed.nd rfl rfl (sw_true rfl rfl rfl (by decide +kernel)) (pi_tup (pv 2)) (blkOk_by (N := N_law_deed) (sc := defScope s_law_deed) (by decide +kernel)) (fun _ _ _ _ _ => pg_name (i := 11) sc_law_deed.nd rfl (Or.inl rfl)) (fun _ _ _ _ _ => pts_nil) (fun _ _ _ _ _ => (pe_ix (r := rIxT K) ix_tup (pv 11) pe_int (fun _ _ => rfl))))
      (pss_cons (ps_set (i := 4) sc_law_deed.nd rfl (Or.inl rfl) (pe_call G_law_pick (hr.mono (by decide)) rfl T.d_law_pick.g T.d_law_pick.F.kp T.d_law_pick.b .nil pass0 (pa_cons (pv 0) (pa_cons (pv 1) (pa_cons (pe_lst (pa_cons pe_str (pa_cons pe_str (pa_cons pe_str (pa_cons pe_str (pa_cons pe_str (pa_cons pe_str (pa_cons pe_str (pa_cons pe_str (pa_cons pe_str (pa_cons pe_str pa_nil))))))))))) pa_nil)))))
      (pss_cons (ps_set (i := 5) sc_law_deed.nd rfl (Or.inl rfl) (pe_op op_cat (pe_op op_cat (pe_lst (pa_cons pe_non (pa_cons pe_non (pa_cons pe_str pa_nil)))) (pv 3)) (pv 3)))
      (pss_cons (ps_if (PW.pt (pw_or (pt_cmpR op_gt (pe_call G_law_draw (hr.mono (by decide)) rfl T.d_law_draw.g T.d_law_draw.F.kp T.d_law_draw.b .nil pass0 (pa_cons (pv 0) (pa_cons (pv 1) (pa_cons pe_int pa_nil)))) pe_int (nomark _)) (pw_or1 (pt_cmpR (op_eqD hr.units) (pv 3) (pe_lst pa_nil) (nomark _)))))
        (pss_cons (ps_set (i := 11) sc_law_deed.nd rfl (Or.inl rfl) (pe_tup (pa_cons (pv 4) (pa_cons (pe_call G_law_pick (hr.mono (by decide)) rfl T.d_law_pick.g T.d_law_pick.F.kp T.d_law_pick.b .nil pass0 (pa_cons (pv 0) (pa_cons (pv 1) (pa_cons (pe_lst (pa_cons pe_str (pa_cons pe_str pa_nil))) pa_nil)))) pa_nil))))
        (pss_cons (ps_set (i := 11) sc_law_deed.nd rfl (Or.inl rfl) (pe_op op_catT (pv 11) (pe_tup (pa_cons (pe_call G_law_pick (hr.mono (by decide)) rfl T.d_law_pick.g T.d_law_pick.F.kp T.d_law_pick.b .nil pass0 (pa_cons (pv 0) (pa_cons (pv 1) (pa_cons (pv 5) pa_nil)))) (pa_cons (pe_call G_law_pick (hr.mono (by decide)) rfl T.d_law_pick.g T.d_law_pick.F.kp T.d_law_pick.b .nil pass0 (pa_cons (pv 0) (pa_cons (pv 1) (pa_cons (pv 5) pa_nil)))) pa_nil)))))
        (pss_cons (ps_set (i := 12) sc_law_deed.nd rfl (Or.inl rfl) (pe_callTy (call_dictP rfl) (by rfl) T.n_dict b_dict (pa_cons (pe_lc (own := [("_law_person", 13)]) (g := gName 13) (tt := tYes) rfl sc_law_deed.nd (pi_tup (pv 2)) (blkOk_by (N := N_law_deed) (sc := defScope s_law_deed) (by decide +kernel)) (fun _ _ _ _ _ => pg_name (i := 13) sc_law_deed.nd rfl (Or.inl rfl)) (fun _ _ _ _ _ => pts_nil) (fun _ _ _ _ _ => (pe_slice (r := rSlT K) sl_tup (pv 13) po_none (po_some pe_int)))) pa_nil)))
        (pss_cons (ps_if (pt_cmpR op_in_seq (pv 4) (pv 3) (by rfl))
          (pss_one (ps_ret (pe_tup (pa_cons (pe_op op_catT (pe_tup (pa_cons pe_int pa_nil)) (pv 11)) (pa_cons (pe_tup (pa_cons pe_str (pa_cons pe_int pa_nil))) pa_nil)))))
          pss_nil)
        (pss_cons (ps_if (PW.pt (pw_or (PW.pt (pw_and (pt_cmp (pc_notN (pe_ix ix_tup (pv 11) pe_int (fun _ _ => rfl)))) (pw_and1 (pt_cmpR op_ne (pe_dget1 (lt1 hr.units) (pv 12) (pe_ix ix_tup (pv 11) pe_int (fun _ _ => rfl)) ⟨rfl, rfl, rfl, rfl⟩) pe_str (nomark _))))) (pw_or1 (PW.pt (pw_and (pt_cmp (pc_notN (pe_ix ix_tup (pv 11) pe_int (fun _ _ => rfl)))) (pw_and1 (pt_cmpR op_ne (pe_dget1 (lt1 hr.units) (pv 12) (pe_ix ix_tup (pv 11) pe_int (fun _ _ => rfl)) ⟨rfl, rfl, rfl, rfl⟩) pe_str (nomark _))))))))
          (pss_one (ps_ret (pe_tup (pa_cons (pe_op op_catT (pe_tup (pa_cons pe_int pa_nil)) (pv 11)) (pa_cons (pe_tup (pa_cons pe_str (pa_cons pe_int pa_nil))) pa_nil)))))
          pss_nil)
        (pss_one (ps_ret (pe_tup (pa_cons (pe_op op_catT (pe_tup (pa_cons pe_int pa_nil)) (pv 11)) (pa_cons (pe_op op_catA (pv 2) (pe_tup (pa_cons (pv 11) pa_nil))) pa_nil))))))))))
        pss_nil)
      (pss_cons (ps_set (i := 6) sc_law_deed.nd rfl (Or.inl rfl) (pe_call G_law_draw (hr.mono (by decide)) rfl T.d_law_draw.g T.d_law_draw.F.kp T.d_law_draw.b .nil pass0 (pa_cons (pv 0) (pa_cons (pv 1) (pa_cons (pe_op op_add (pe_callB call_len_seq (by rfl) T.n_len boot_len (pa_cons (pv 3) pa_nil)) pe_int) pa_nil)))))
      (pss_cons (ps_set (i := 4) sc_law_deed.nd rfl (Or.inl rfl) (pe_ix ix_list (pe_op op_cat (pv 3) (pe_lst (pa_cons pe_str pa_nil))) (pv 6) (fun _ _ => rfl)))
      (pss_cons (ps_set (i := 7) sc_law_deed.nd rfl (Or.inl rfl) (pe_call G_law_pick (hr.mono (by decide)) rfl T.d_law_pick.g T.d_law_pick.F.kp T.d_law_pick.b .nil pass0 (pa_cons (pv 0) (pa_cons (pv 1) (pa_cons (pe_op op_cat (pe_op op_cat (pv 3) (pe_slice sl_list (pv 3) po_none (po_some (pv 6)))) (pe_lst (pa_cons pe_str pa_nil))) pa_nil)))))
      (pss_cons (ps_set (i := 8) sc_law_deed.nd rfl (Or.inl rfl) (pe_tup (pa_cons pe_int (pa_cons (pv 4) (pa_cons (pv 7) (pa_cons pe_non (pa_cons pe_non pa_nil)))))))
      (pss_cons (ps_if (pt_cmpR op_notIn_seq (pv 4) (pv 3) (by rfl))
        (pss_one (ps_ret (pe_tup (pa_cons (pv 8) (pa_cons (pe_tup (pa_cons pe_str (pa_cons pe_int pa_nil))) pa_nil)))))
        pss_nil)
      (pss_cons (ps_if (pt_cmpR op_notIn_seq (pv 7) (pe_slice sl_list (pv 3) po_none (po_some (pv 6))) (by rfl))
        (pss_one (ps_ret (pe_tup (pa_cons (pv 8) (pa_cons (pe_tup (pa_cons pe_str (pa_cons pe_int pa_nil))) pa_nil)))))
        pss_nil)
      (pss_cons (ps_set (i := 9) sc_law_deed.nd rfl (Or.inl rfl) (pe_ifExp (pt_cmpR op_eq (pe_dget (lt1 hr.units) (pe_callTy (call_dictP rfl) (by rfl) T.n_dict b_dict (pa_cons (pe_lc (own := [("_law_person", 13)]) (g := gName 13) (tt := tYes) rfl sc_law_deed.nd (pi_tup (pv 2)) (blkOk_by (N := N_law_deed) (sc := defScope s_law_deed) (by decide +kernel)) (fun _ _ _ _ _ => pg_name (i := 13) sc_law_deed.nd rfl (Or.inl rfl)) (fun _ _ _ _ _ => pts_nil) (fun _ _ _ _ _ => (pe_slice (r := rSlT K) sl_tup (pv 13) po_none (po_some pe_int)))) pa_nil)) (pv 7) (fun _ _ => rfl)) pe_str (nomark _)) pe_int pe_int))
      (pss_cons (ps_if (pt_cmp (pc_notN (pe_ix ix_tup (pe_ix ix_tup (pv 2) (pv 6) (fun _ _ => rfl)) (pv 9) (fun _ _ => rfl))))
        (pss_one (ps_ret (pe_tup (pa_cons (pv 8) (pa_cons (pe_tup (pa_cons pe_str (pa_cons pe_int pa_nil))) pa_nil)))))
        pss_nil)
      (pss_cons (ps_set (i := 10) sc_law_deed.nd rfl (Or.inl rfl) (pe_op op_catA (pe_op op_catA (pe_slice sl_tupA (pe_ix ix_tup (pv 2) (pv 6) (fun _ _ => rfl)) po_none (po_some (pv 9))) (pe_tup (pa_cons (pv 7) pa_nil))) (pe_slice sl_tupA (pe_ix ix_tup (pv 2) (pv 6) (fun _ _ => rfl)) (po_some (pe_op op_add (pv 9) pe_int)) po_none)))
      (pss_one (ps_ret (pe_tup (pa_cons (pv 8) (pa_cons (pe_op op_catA (pe_op op_catA (pe_slice sl_tupA (pv 2) po_none (po_some (pv 6))) (pe_tup (pa_cons (pv 10) pa_nil))) (pe_slice sl_tupA (pv 2) (po_some (pe_op op_add (pv 6) pe_int)) po_none)) pa_nil)))))))))))))))))), ?_⟩
    obtain ⟨f, Ts, rfl, ef, hl, hrow⟩ := fam.ex
    have h40 := hg.most
    have fp : f ≠ p := town_ne hT0 ef
    have hS : ∀ H', SameBut p H H' → SqT K H' f (Ts.map V.ref) := fun H' s => .inl (.inl (s _ _ fp ef))
    refine ⟨_, rfl, f, rfl, ⟨_, hS _ (Same.refl _).but⟩, fun D nD => ?_⟩
    have Dp : D ≠ p := town_new hT0 nD
    refine lc_strs (walk_tup (K := K) (a := f) (xs := Ts.map V.ref)) (ps.map Per.name) (by rw [List.length_map, List.length_map, hl]) (by rw [List.length_map]; omega) nD (fun H' s => hS H' s.but) ?_ ?_
    · rintro j v H2 H2' hj s2 ⟨rfl, ev⟩ Q' hq
      rw [List.getElem?_map] at ev
      cases et : Ts[j]? with
      | none => rw [et] at ev; cases ev
      | some t =>
        rw [et] at ev
        cases ev
        obtain ⟨p', hp', ht⟩ := hrow j t et
        refine ⟨rfl, _, rfl, t, _, 0, _, rfl, rfl, .inl (.inl (s2 _ _ ht)), rfl, hq _ _ (Same.refl _) ?_⟩
        rw [List.getElem?_map, hp']
        rfl
    intro H1 s1 eD
    have eD : H1 D = some (.lst (txts (ps.map Per.name))) := eD
    have T1 := hT0.but s1
    have B1 : SameBut p H H1 := s1.but
    clear s1 nD
    try dsimp only [tNext, gName]
    refine seq_asg ?_
    refine ⟨_, rfl, _, rfl, by show 10 ≤ sizeLine; decide, fun L nL => ?_⟩
    have c1 := same_upd (o := .lst [V.str "a", V.str "b", V.str "c", V.str "d", V.str "e", V.str "f", V.str "g", V.str "h", V.str "i", V.str "j"]) nL
    refine ⟨a, p, L, ns, [V.str "a", V.str "b", V.str "c", V.str "d", V.str "e", V.str "f", V.str "g", V.str "h", V.str "i", V.str "j"], rfl, hB.mono (B1.trans c1.but), hlen, T1.but c1, .inl (.inl upd_same), town_new T1 nL, List.cons_ne_nil _ _, by show 10 ≤ 1000; decide, fun H2 x hx T2 b2 => ?_⟩
    have hx : x ∈ tens.map V.str := hx
    obtain ⟨nm, hnm, rfl⟩ := List.mem_map.mp hx
    have B2 : SameBut p H H2 := B1.trans (c1.but.trans b2)
    have eD2 : H2 D = some (.lst (txts (ps.map Per.name))) := (c1.but.trans b2) _ _ Dp eD
    clear c1 nL b2 hx eD T1 B1
    try dsimp only [tNext, gName]
    refine seq_asg ?_
    have hln : (txts (ps.map Per.name)).length = ps.length := by unfold txts; rw [List.length_map, List.length_map]
    refine ⟨by show 3 ≤ sizeLine; decide, fun l1 n1 => ⟨_, rfl, l1, D, _, _, rfl, rfl, upd_same, same_upd n1 _ _ eD2, (by rw [hln, sizeLine_eq]; show 3 + ps.length ≤ _; omega), fun l2 n2 => ?_⟩⟩
    refine ⟨_, rfl, l2, D, _, _, rfl, rfl, upd_same, same_upd n2 _ _ (same_upd n1 _ _ eD2), (by rw [List.length_append, hln, sizeLine_eq]; show 3 + ps.length + ps.length ≤ _; omega), fun l3 n3 => ?_⟩
    have s3 : Same H2 (upd (upd (upd H2 l1 (.lst [V.non, V.non, V.str "zz"])) l2 (.lst ([V.non, V.non, V.str "zz"] ++ txts (ps.map Per.name)))) l3 (.lst ([V.non, V.non, V.str "zz"] ++ txts (ps.map Per.name) ++ txts (ps.map Per.name)))) := (same_upd n1).trans ((same_upd n2).trans (same_upd n3))
    have l3p : l3 ≠ p := town_new (T2.but ((same_upd n1).trans (same_upd n2))) n3
    have e3 : upd (upd (upd H2 l1 (.lst [V.non, V.non, V.str "zz"])) l2 (.lst ([V.non, V.non, V.str "zz"] ++ txts (ps.map Per.name)))) l3 (.lst ([V.non, V.non, V.str "zz"] ++ txts (ps.map Per.name) ++ txts (ps.map Per.name))) l3 = some (.lst ([V.non, V.non, V.str "zz"] ++ txts (ps.map Per.name) ++ txts (ps.map Per.name))) := upd_same
    generalize upd (upd (upd H2 l1 (.lst [V.non, V.non, V.str "zz"])) l2 (.lst ([V.non, V.non, V.str "zz"] ++ txts (ps.map Per.name)))) l3 (.lst ([V.non, V.non, V.str "zz"] ++ txts (ps.map Per.name) ++ txts (ps.map Per.name))) = H3 at s3 e3 ⊢
    have hpar : ∀ v ∈ [V.non, V.non, V.str "zz"] ++ txts (ps.map Per.name) ++ txts (ps.map Per.name), isPar v := by
      have hn : ∀ v ∈ txts (ps.map Per.name), isPar v := fun v hv => by
        obtain ⟨z, hz, rfl⟩ := List.mem_map.mp hv
        obtain ⟨p', hp', rfl⟩ := List.mem_map.mp hz
        exact (tens_len _ (hten p' hp')).1
      intro v hv
      rw [List.mem_append, List.mem_append] at hv
      rcases hv with (hv | hv) | hv
      · simp only [List.mem_cons, List.not_mem_nil, or_false] at hv
        rcases hv with rfl | rfl | rfl
        · trivial
        · trivial
        · show ("zz" : Str).length ≤ 1000
          decide +kernel
      · exact hn v hv
      · exact hn v hv
    have hl3 : ([V.non, V.non, V.str "zz"] ++ txts (ps.map Per.name) ++ txts (ps.map Per.name)).length ≤ 1000 := by
      rw [List.length_append, List.length_append, hln]
      show 3 + ps.length + ps.length ≤ 1000
      omega
    have hne3 : [V.non, V.non, V.str "zz"] ++ txts (ps.map Per.name) ++ txts (ps.map Per.name) ≠ [] := by
      intro z
      have h0 := congrArg List.length z
      rw [List.length_append, List.length_append, hln] at h0
      have h0 : 3 + ps.length + ps.length = 0 := h0
      omega
    generalize [V.non, V.non, V.str "zz"] ++ txts (ps.map Per.name) ++ txts (ps.map Per.name) = some3 at e3 hpar hl3 hne3
    have T3 := T2.but s3
    have B3 := B2.trans s3.but
    have eD3 := s3 _ _ eD2
    clear T2 B2 eD2 s3 n1 n2 n3
    try dsimp only [tNext, gName]
    refine seq_if ?_
    refine or_any (fun H' => TownAt H' p ∧ SameBut p H3 H') (fun Q' h => ?_) (fun H' Q' hR h => ?_) (fun H4 hR => ?_) (fun H4 hR => ?_)
    · refine ⟨_, rfl, _, rfl, a, p, ns, 2, rfl, hB.mono B3, hlen, T3, by decide, by decide, fun H4 r r0 r1 T4 b4 => ?_⟩
      exact ⟨_, _, rfl, rfl, _, rfl, h _ _ ⟨T4, b4⟩⟩
    · obtain ⟨T4, b4⟩ := hR
      refine ⟨_, rfl, Nat.zero_le _, fun e ne => ?_⟩
      have eD4 := same_upd (o := .lst []) ne _ _ (b4 _ _ Dp eD3)
      refine ⟨.list ((ps.map Per.name).map PyData.str), .list [], .lst (.inl (.inl eD4)) (dp_txts _), .lst (.inl (.inl upd_same)) .nil, sh_txts fun z hz => ?_, by decide +kernel, _, rfl, h _ _ ⟨T4.but (same_upd ne), b4.trans (same_upd ne).but⟩⟩
      obtain ⟨p', hp', rfl⟩ := List.mem_map.mp hz
      exact (tens_len _ (hten p' hp')).2
    · obtain ⟨T4, b4⟩ := hR
      have eD4 := b4 _ _ Dp eD3
      have e34 := b4 _ _ l3p e3
      have B4 := B3.trans b4
      clear b4 eD3 e3 B3 T3
      try dsimp only [tNext, gName]
      refine seq_asg ?_
      refine ⟨_, rfl, _, rfl, _, rfl, by show 2 ≤ sizeLine; decide, fun L nL => ?_⟩
      have c1 := same_upd (o := .lst [V.str "he", V.str "she"]) nL
      refine ⟨a, p, L, ns, [V.str "he", V.str "she"], rfl, hB.mono (B4.trans c1.but), hlen, T4.but c1, .inl (.inl upd_same), town_new T4 nL, List.cons_ne_nil _ _, by show 2 ≤ 1000; decide, fun H5 x5 hx5 T5 b5 => ?_⟩
      have b45 := c1.but.trans b5
      have hsx : ∃ z : Str, x5 = .str z ∧ z.length ≤ 1000 := by
        simp only [List.mem_cons, List.not_mem_nil, or_false] at hx5
        rcases hx5 with rfl | rfl
        all_goals exact ⟨_, rfl, by decide +kernel⟩
      obtain ⟨sx, rfl, hsl⟩ := hsx
      clear hx5 c1 nL b5
      refine ⟨by show 2 ≤ sizeLine; decide, fun t1 n1 => ?_⟩
      have c6 := same_upd (o := .tup [V.str nm, V.str sx]) n1
      have e1 : upd H5 t1 (.tup [V.str nm, V.str sx]) t1 = some (.tup [V.str nm, V.str sx]) := upd_same
      have T6 := T5.but c6
      have b46 := b45.trans c6.but
      have eD6 := b46 _ _ Dp eD4
      have e36 := b46 _ _ l3p e34
      have B6 := B4.trans b46
      generalize upd H5 t1 (.tup [V.str nm, V.str sx]) = H6 at e1 T6 b46 eD6 e36 B6 ⊢
      clear T5 b45 b46 eD4 e34 B4 T4 n1 c6
      try dsimp only [tNext, gName]
      refine seq_asg ?_
      refine ⟨_, rfl, _, rfl, _, rfl, _, rfl, a, p, l3, ns, some3, rfl, hB.mono B6, hlen, T6, .inl (.inl e36), l3p, hne3, hl3, fun H7 v3 hv3 T7 b7 => ?_⟩
      have e37 := b7 _ _ l3p e36
      refine ⟨_, rfl, _, rfl, _, rfl, a, p, l3, ns, some3, rfl, hB.mono (B6.trans b7), hlen, T7, .inl (.inl e37), l3p, hne3, hl3, fun H8 v4 hv4 T8 b8 => ?_⟩
      have P3 := hpar _ hv3
      have P4 := hpar _ hv4
      have b68 := b7.trans b8
      have e18 := b68 _ _ (town_ne T6 e1) e1
      have eD8 := b68 _ _ Dp eD6
      have B8 := B6.trans b68
      clear hv3 hv4 e37 e36 T7 b7 b8 b68 B6 T6 e1 eD6
      refine ⟨by show 2 ≤ sizeLine; decide, fun t2 n2 => ?_⟩
      have c9 := same_upd (o := .tup [v3, v4]) n2
      have e2 : upd H8 t2 (.tup [v3, v4]) t2 = some (.tup [v3, v4]) := upd_same
      have e19 := c9 _ _ e18
      have eD9 := c9 _ _ eD8
      have T9 := T8.but c9
      have B9 := B8.trans c9.but
      generalize upd H8 t2 (.tup [v3, v4]) = H9 at e2 e19 eD9 T9 B9 ⊢
      clear c9 n2 e18 eD8 B8 T8
      refine ⟨t1, t2, _, _, rfl, rfl, .inl (.inl e19), .inl (.inl e2), List.cons_ne_nil _ _, by show 2 + 2 ≤ sizeLine; decide, (fun z => by cases z), fun _ t3 n3 => ?_⟩
      have c10 := same_upd (o := .tup ([V.str nm, V.str sx] ++ [v3, v4])) n3
      have et3 : upd H9 t3 (.tup ([V.str nm, V.str sx] ++ [v3, v4])) t3 = some (.tup [V.str nm, V.str sx, v3, v4]) := upd_same
      have eD10 := c10 _ _ eD9
      have T10 := T9.but c10
      have B10 := B9.trans c10.but
      generalize upd H9 t3 (.tup ([V.str nm, V.str sx] ++ [v3, v4])) = H10 at et3 eD10 T10 B10 ⊢
      clear c10 n3 e2 e19 eD9 B9 T9
      try dsimp only [tNext, gName]
      -- sexes
      refine seq_asg ?_
      have ef10 := B10 _ _ fp ef
      have hS10 : ∀ H', Same H10 H' → SqT K H' f (Ts.map V.ref) := fun H' s => .inl (.inl (s _ _ ef10))
      refine ⟨_, rfl, f, rfl, ⟨_, hS10 _ (Same.refl _)⟩, fun D2 nD2 => ?_⟩
      refine lc_gen (walk_tup (K := K) (a := f) (xs := Ts.map V.ref)) (PY := fun i y H' => ∃ u q, y = .ref u ∧ ps[i]? = some q ∧ H' u = some (.tup [.str q.name, .str (sexC q.he)])) (by rw [List.length_map]; omega) (fun _ _ _ _ ⟨u, q, e1, e2, e3⟩ s => ⟨u, q, e1, e2, s _ _ e3⟩) nD2 (fun H' s => hS10 H' s) ?_ ?_
      · rintro j v G G' hj sg ⟨acc, eA⟩ ⟨rfl, ev⟩ Q' hq
        rw [List.getElem?_map] at ev
        cases et : Ts[j]? with
        | none => rw [et] at ev; cases ev
        | some t =>
          rw [et] at ev
          cases ev
          obtain ⟨q', hq', ht⟩ := hrow j t et
          have tp := town_ne hT0 ht
          have htG := sg _ _ (B10 _ _ tp ht)
          refine ⟨rfl, _, rfl, 2, rfl, t, _, rfl, .inl (.inl htG), (by show ¬ (HT.sIx 4 0 none = 0 ∧ HT.sIx 4 4 (some 2) = 4); decide +kernel), fun u nu => ?_⟩
          refine hq _ _ (same_upd nu) ⟨u, q', rfl, hq', hide_at (fun z => by rw [z, eA] at nu; cases nu) ?_⟩
          exact upd_same.trans (congrArg (fun z => some (HO.tup z)) (cut_take (k := 2)))
      intro H11 ys s11 eD11 hys hrows
      obtain ⟨us, rfl, pr⟩ := paired_kv (K := K) (H := H11) (ps := ps) (ys := ys) (by rw [hys, List.length_map, hl]) fun i y hy => by
        obtain ⟨u, q', h1, h2, h3⟩ := hrows i y hy
        exact ⟨u, q', h1, h2, hide_sub _ _ h3⟩
      refine ⟨D2, us, kvOf ps, rfl, .inl (.inl eD11), pr, fun pd npd => ?_⟩
      rw [merge_kv hg.ap]
      have s12 : Same H10 (upd H11 pd (.dK (kvOf ps))) := s11.trans (same_upd npd)
      have ed : upd H11 pd (.dK (kvOf ps)) pd = some (.dK (kvOf ps)) := upd_same
      generalize upd H11 pd (.dK (kvOf ps)) = H12 at s12 ed ⊢
      have et12 := s12 _ _ et3
      have eD12 := s12 _ _ eD10
      have T12 := T10.but s12
      have B12 := B10.trans s12.but
      clear npd pr hrows eD11 hys s11 nD2 hS10 ef10 s12 T10 B10 et3 eD10
      try dsimp only [tNext, gName]
      have retA : ∀ (te2 : TE) (σ' : L2.St), σ'[11]? = some (some (.ref t3)) → (∀ G Q', Same H12 G → (∀ v G', Same G G' → Q' v G') → te2 σ' G Q') →
          (tTup (tCons (tOp (rCatT K) (tTup (tCons (tC (.int 0)) tNil)) (tVar 11)) (tCons te2 tNil))) σ' H12 Q := by
        intro te2 σ' h11 h2
        refine ⟨by show 1 ≤ sizeLine; decide, fun z nz => ⟨_, h11, ?_⟩⟩
        refine ⟨z, t3, [V.int 0], [V.str nm, V.str sx, v3, v4], rfl, rfl, .inl (.inl upd_same), .inl (.inl (same_upd nz _ _ et12)), List.cons_ne_nil _ _, by show 1 + 4 ≤ sizeLine; decide, (fun z => by cases z), fun _ td ntd => ?_⟩
        have sG := (same_upd (o := .tup [V.int 0]) nz).trans (same_upd (o := .tup ([V.int 0] ++ [V.str nm, V.str sx, v3, v4])) ntd)
        have etd : upd (upd H12 z (.tup [V.int 0])) td (.tup ([V.int 0] ++ [V.str nm, V.str sx, v3, v4])) td = some (.tup [V.int ((0 : Nat) : Int), V.str nm, V.str sx, v3, v4]) := upd_same
        generalize upd (upd H12 z (.tup [V.int 0])) td (.tup ([V.int 0] ++ [V.str nm, V.str sx, v3, v4])) = G at sG etd ⊢
        refine h2 G _ sG fun due G' s' => ⟨by show 2 ≤ sizeLine; decide, fun r nr => ?_⟩
        have sR : Same H12 (upd G' r (.tup [V.ref td, due])) := sG.trans (s'.trans (same_upd nr))
        obtain ⟨d3, td3⟩ := P3.td (H := upd G' r (.tup [V.ref td, due]))
        obtain ⟨d4, td4⟩ := P4.td (H := upd G' r (.tup [V.ref td, due]))
        exact q _ r td due 0 _ _ _ _ (.str nm) (.str sx) d3 d4 upd_same (same_upd nr _ _ (s' _ _ etd)) (by decide) (fun _ => ⟨nm, rfl, hnm⟩) (.str (tens_len _ hnm).1) (.str hsl) td3 td4 (T12.but sR) (B12.trans sR.but)
      refine seq_if ?_
      refine ⟨_, rfl, _, rfl, D, txts (ps.map Per.name), rfl, .inl (.inl (.inl eD12)), rfl, flat_txts _, _, rfl, ?_⟩
      have refT : ∀ (j : Nat) (σ' : L2.St) (G : Hp) (Q' : VK), Same H12 G → (∀ v G', Same G G' → Q' v G') → tTup (tCons (tC (.str "refused")) (tCons (tC (.int (j : Nat))) tNil)) σ' G Q' := fun j σ' G Q' _ h => ⟨by show 2 ≤ sizeLine; decide, fun t nt => h _ _ (same_upd nt)⟩
      refine ite2 (fun _ => ?_) (fun _ => ?_)
      · exact retA _ _ rfl fun G Q' sG h => refT 10 _ G Q' sG h
      try dsimp only [tNext, gName]
      have tp : ∀ (i : Int) (v : V) (wd : Str) (σ' : L2.St), σ'[11]? = some (some (.ref t3)) → σ'[12]? = some (some (.ref pd)) → atI [V.str nm, V.str sx, v3, v4] i = some v → isPar v → ∀ Q' : Bool → Hp → Prop, (∀ b H', H' = H12 → Q' b H') →
          tAnd (tB (tNotN (tOp (rIxT K) (tVar 11) (tC (.int i))))) (tTest (tOp rNe (tDGet1 (tVar 12) (tOp (rIxT K) (tVar 11) (tC (.int i)))) (tC (.str wd)))) σ' H12 Q' := by
        intro i v wd σ' h11 h12 hat hp Q' h
        refine ⟨_, h11, t3, _, i, v, rfl, rfl, .inl (.inl et12), hat, _, rfl, ?_⟩
        cases v with
        | non => exact iteF (h _ _ rfl)
        | str z =>
          refine iteT ?_
          refine ⟨_, h12, pd, rfl, .inl ⟨_, .inl ed⟩, _, h11, t3, _, i, _, rfl, rfl, .inl (.inl et12), hat, _, DGet.k (k := Sum.inr z) ed, ?_, _, rfl, h _ _ rfl⟩
          rw [val_sex, sx_getD]
          cases sexIn ps z <;> rfl
        | _ => exact hp.elim
      refine seq_if ?_
      refine or_any (fun H' => H' = H12) (fun Q' h => tp 2 v3 "he" _ rfl rfl rfl P3 Q' h) (fun H' Q' hR h => by subst hR; exact tp 3 v4 "she" _ rfl rfl rfl P4 Q' h) (fun H' hR => ?_) (fun H' hR => ?_)
      · subst hR
        exact iteT (retA _ _ rfl fun G Q' sG h => refT 9 _ G Q' sG h)
      · subst hR
        refine iteF ?_
        try dsimp only [tNext, gName]
        refine retA _ _ rfl fun G Q' sG h => ?_
        refine ⟨_, rfl, _, rfl, by show 1 ≤ sizeLine; decide, fun u nu => ?_⟩
        have efG : G f = some (.tup (Ts.map V.ref)) := sG _ _ (B12 _ _ fp ef)
        exact ⟨f, u, Ts.map V.ref, [V.ref t3], rfl, rfl, .inl (.inl (same_upd nu _ _ efG)), .inl (.inl upd_same), by rw [List.length_map, hl, sizeLine_eq]; show ps.length + 1 ≤ _; omega, (fun _ => h _ _ (same_upd nu)), (fun _ z => by cases z), fun _ _ pp npp => h _ _ ((same_upd nu).trans (same_upd npp))⟩
    · obtain ⟨T4, b4⟩ := hR
      have eD4 := b4 _ _ Dp eD3
      have B4 := B3.trans b4
      clear b4 eD3 e3 B3 T3 hpar hl3 hne3
      refine iteF ?_
      try dsimp only [tNext, gName]
      refine seq_asg ?_
      refine ⟨_, rfl, _, rfl, _, rfl, D, _, rfl, .inl (.inl (.inl eD4)), _, _, rfl, rfl, ?_⟩
      refine ⟨a, p, ns, _, rfl, hB.mono B4, hlen, T4, by omega, by rw [hln]; omega, fun H5 r r0 r1 T5 b5 => ?_⟩
      obtain ⟨i, rfl⟩ : ∃ i : Nat, r = (i : Int) := ⟨r.toNat, by omega⟩
      rw [hln] at r1
      have hi : i ≤ ps.length := by omega
      have eD5 := b5 _ _ Dp eD4
      have B5 := B4.trans b5
      clear r0 r1 b5 B4 T4 eD4
      try dsimp only [tNext, gName]
      refine seq_asg ?_
      refine ⟨_, rfl, by show 1 ≤ sizeLine; decide, fun l nl => ⟨D, l, _, _, rfl, rfl, same_upd nl _ _ eD5, upd_same, (by rw [hln, sizeLine_eq]; show ps.length + 1 ≤ _; omega), fun m nm' => ?_⟩⟩
      have s6 : Same H5 (upd (upd H5 l (.lst [V.str "zz"])) m (.lst (txts (ps.map Per.name) ++ [V.str "zz"]))) := (same_upd nl).trans (same_upd nm')
      have e6 : upd (upd H5 l (.lst [V.str "zz"])) m (.lst (txts (ps.map Per.name) ++ [V.str "zz"])) m = some (.lst (txts (ps.map Per.name ++ [("zz" : Str)]))) := by
        rw [upd_same]
        unfold txts
        rw [List.map_append]
        rfl
      generalize upd (upd H5 l (.lst [V.str "zz"])) m (.lst (txts (ps.map Per.name) ++ [V.str "zz"])) = H6 at s6 e6 ⊢
      have hil : i < (ps.map Per.name ++ [("zz" : Str)]).length := by rw [List.length_append, List.length_map]; show i < ps.length + 1; omega
      have hz : (ps.map Per.name ++ [("zz" : Str)])[i]? = some ((ps.map Per.name ++ [("zz" : Str)]).getD i "") := getD_some hil
      have hzl : ((ps.map Per.name ++ [("zz" : Str)]).getD i "").length ≤ 1000 := by
        rcases List.mem_append.mp (List.mem_of_getElem? hz) with h | h
        · obtain ⟨p', hp', e⟩ := List.mem_map.mp h
          rw [← e]
          exact (tens_len _ (hten p' hp')).1
        · rw [List.mem_singleton.mp h]
          decide +kernel
      have hzi : ∀ h : (ps.map Per.name ++ [("zz" : Str)]).getD i "" ∈ ps.map Per.name, i < ps.length := by
        intro h
        rcases Nat.lt_or_ge i ps.length with c | c
        · exact c
        · have ei : i = (ps.map Per.name).length := by rw [List.length_map]; omega
          rw [ei, List.getElem?_append_right (Nat.le_refl _), Nat.sub_self] at hz
          have hz : some ("zz" : Str) = some ((ps.map Per.name ++ [("zz" : Str)]).getD (ps.map Per.name).length "") := hz
          rw [← ei] at hz
          rw [← Option.some.inj hz] at h
          obtain ⟨p', hp', e⟩ := List.mem_map.mp h
          exact absurd (e ▸ hten p' hp') tens_zz
      generalize (ps.map Per.name ++ [("zz" : Str)]).getD i "" = z1 at hz hzl hzi
      refine ⟨_, rfl, m, _, _, .str z1, rfl, rfl, .inl (.inl e6), atI_nat (by unfold txts; rw [List.getElem?_map, hz]; rfl), ?_⟩
      have eD6 := s6 _ _ eD5
      have T6 := T5.but s6
      have B6 := B5.trans s6.but
      clear hz hil e6 s6 nl nm' T5 B5 eD5
      try dsimp only [tNext, gName]
      refine seq_asg ?_
      have hct : cutV (txts (ps.map Per.name)) none (some (i : Int)) = txts ((ps.map Per.name).take i) := by
        rw [cut_take]
        unfold txts
        rw [List.map_take]
      refine ⟨_, rfl, _, rfl, _, rfl, _, rfl, _, rfl, (i : Int), rfl, D, _, rfl, .inl (.inl eD6), fun l nl => ?_⟩
      rw [hct]
      refine ⟨D, l, _, _, rfl, rfl, same_upd nl _ _ eD6, upd_same, (by unfold txts; rw [List.length_map, List.length_map, List.length_map, List.length_take, List.length_map, sizeLine_eq]; omega), fun m1 nm1 => ?_⟩
      refine ⟨by show 1 ≤ sizeLine; decide, fun l' nl' => ⟨m1, l', _, _, rfl, rfl, same_upd nl' _ _ upd_same, upd_same, (by unfold txts; rw [List.length_append, List.length_map, List.length_map, List.length_map, List.length_take, List.length_map, sizeLine_eq]; show _ + 1 ≤ _; omega), fun m2 nm2 => ?_⟩⟩
      have s7 := (same_upd (o := .lst (txts ((ps.map Per.name).take i))) nl).trans ((same_upd (o := .lst (txts (ps.map Per.name) ++ txts ((ps.map Per.name).take i))) nm1).trans ((same_upd (o := .lst [V.str "zz"]) nl').trans (same_upd (o := .lst (txts (ps.map Per.name) ++ txts ((ps.map Per.name).take i) ++ [V.str "zz"])) nm2)))
      have m2p := town_new (T6.but ((same_upd (o := .lst (txts ((ps.map Per.name).take i))) nl).trans ((same_upd (o := .lst (txts (ps.map Per.name) ++ txts ((ps.map Per.name).take i))) nm1).trans (same_upd (o := .lst [V.str "zz"]) nl')))) nm2
      have e7 : upd (upd (upd (upd H6 l (.lst (txts ((ps.map Per.name).take i)))) m1 (.lst (txts (ps.map Per.name) ++ txts ((ps.map Per.name).take i)))) l' (.lst [V.str "zz"])) m2 (.lst (txts (ps.map Per.name) ++ txts ((ps.map Per.name).take i) ++ [V.str "zz"])) m2 = some (.lst (txts (ps.map Per.name) ++ txts ((ps.map Per.name).take i) ++ [V.str "zz"])) := upd_same
      generalize upd (upd (upd (upd H6 l (.lst (txts ((ps.map Per.name).take i)))) m1 (.lst (txts (ps.map Per.name) ++ txts ((ps.map Per.name).take i)))) l' (.lst [V.str "zz"])) m2 (.lst (txts (ps.map Per.name) ++ txts ((ps.map Per.name).take i) ++ [V.str "zz"])) = H7 at s7 e7 ⊢
      have T7 := T6.but s7
      refine ⟨a, p, m2, ns, _, rfl, hB.mono (B6.trans s7.but), hlen, T7, .inl (.inl e7), m2p, (by simp), (by unfold txts; rw [List.length_append, List.length_append, List.length_map, List.length_map, List.length_map, List.length_take, List.length_map]; show _ + 1 ≤ 1000; omega), fun H8 x8 hx8 T8 b8 => ?_⟩
      have hpr : ∃ z, x8 = .str z ∧ z.length ≤ 1000 := by
        have hn : ∀ z ∈ ps.map Per.name, z.length ≤ 1000 := fun z hz => by
          obtain ⟨p', hp', rfl⟩ := List.mem_map.mp hz
          exact (tens_len _ (hten p' hp')).1
        rw [List.mem_append, List.mem_append] at hx8
        rcases hx8 with (h | h) | h
        · obtain ⟨z, hz, rfl⟩ := List.mem_map.mp h
          exact ⟨z, rfl, hn z hz⟩
        · obtain ⟨z, hz, rfl⟩ := List.mem_map.mp h
          exact ⟨z, rfl, hn z (List.mem_of_mem_take hz)⟩
        · rw [List.mem_singleton.mp h]
          exact ⟨_, rfl, by decide +kernel⟩
      obtain ⟨z2, rfl, hz2⟩ := hpr
      have eD8 := b8 _ _ Dp (s7 _ _ eD6)
      have B8 := B6.trans (s7.but.trans b8)
      clear hx8 b8 T7 e7 s7 m2p nm2 nl' nm1 nl T6 B6 eD6
      try dsimp only [tNext, gName]
      refine seq_asg ?_
      refine ⟨_, rfl, _, rfl, by show 5 ≤ sizeLine; decide, fun t5 n5 => ?_⟩
      have c9 := same_upd (o := .tup [V.int 1, V.str z1, V.str z2, V.non, V.non]) n5
      have et : upd H8 t5 (.tup [V.int 1, V.str z1, V.str z2, V.non, V.non]) t5 = some (.tup [V.int ((1 : Nat) : Int), V.str z1, V.str z2, V.non, V.non]) := upd_same
      have eD9 := c9 _ _ eD8
      have T9 := T8.but c9
      have B9 := B8.trans c9.but
      generalize upd H8 t5 (.tup [V.int 1, V.str z1, V.str z2, V.non, V.non]) = H9 at et eD9 T9 B9 ⊢
      clear c9 n5 T8 B8 eD8
      have retB : ∀ (te2 : TE) (σ' : L2.St) (G : Hp), Same H9 G → σ'[8]? = some (some (.ref t5)) → Ev te2 σ' G → (tTup (tCons (tVar 8) (tCons te2 tNil))) σ' G Q := by
        intro te2 σ' G sG h8 h2
        refine ⟨_, h8, h2 _ fun due G' s' => ⟨by show 2 ≤ sizeLine; decide, fun r nr => ?_⟩⟩
        have sR : Same H9 (upd G' r (.tup [V.ref t5, due])) := sG.trans (s'.trans (same_upd nr))
        exact q _ r t5 due 1 _ _ _ _ (.str z1) (.str z2) .none .none upd_same (sR _ _ et) (by decide) (fun h => by cases h) (.str hzl) (.str hz2) .non .non (T9.but sR) (B9.trans sR.but)
      have refT : ∀ (j : Nat) (σ' : L2.St) (G : Hp), Ev (tTup (tCons (tC (.str "refused")) (tCons (tC (.int (j : Nat))) tNil))) σ' G := fun j σ' G Q' h => ⟨by show 2 ≤ sizeLine; decide, fun t nt => h _ _ (same_upd nt)⟩
      try dsimp only [tNext, gName]
      refine seq_if ?_
      refine ⟨_, rfl, _, rfl, D, _, rfl, .inl (.inl (.inl eD9)), rfl, flat_txts _, _, rfl, ?_⟩
      refine ite2 (fun _ => retB _ _ _ (Same.refl _) rfl (refT 2 _ _)) (fun hin => ?_)
      have hin1 : inV (V.str z1) (txts (ps.map Per.name)) = true := by simpa using hin
      have hi2 : i < ps.length := by
        refine hzi ?_
        obtain ⟨v, hv, e⟩ := List.any_eq_true.mp (show ((txts (ps.map Per.name)).any fun y => eqV y (V.str z1)) = true from hin1)
        obtain ⟨z, hz, rfl⟩ := List.mem_map.mp hv
        have ez : z = z1 := eq_of_beq (show (z == z1) = true from e)
        exact ez ▸ hz
      try dsimp only [tNext, gName]
      refine seq_if ?_
      refine ⟨_, rfl, _, rfl, _, rfl, (i : Int), rfl, D, _, rfl, .inl (.inl eD9), fun l nl => ?_⟩
      rw [hct]
      refine ⟨l, _, rfl, .inl (.inl (.inl upd_same)), rfl, flat_txts _, _, rfl, ?_⟩
      have sA : Same H9 (upd H9 l (.lst (txts ((ps.map Per.name).take i)))) := same_upd nl
      generalize upd H9 l (.lst (txts ((ps.map Per.name).take i))) = HA at sA ⊢
      clear nl
      refine ite2 (fun _ => retB _ _ _ sA rfl (refT 9 _ _)) (fun hin2 => ?_)
      have hin3 : inV (V.str z2) (txts ((ps.map Per.name).take i)) = true := by simpa using hin2
      have hb : ∃ b, sexIn ps z2 = some b := by
        cases es : sexIn ps z2 with
        | some b => exact ⟨b, rfl⟩
        | none =>
          obtain ⟨v, hv, e⟩ := List.any_eq_true.mp (show ((txts ((ps.map Per.name).take i)).any fun y => eqV y (V.str z2)) = true from hin3)
          obtain ⟨z, hz, rfl⟩ := List.mem_map.mp hv
          have ez : z = z2 := eq_of_beq (show (z == z2) = true from e)
          obtain ⟨p', hp', e2⟩ := List.mem_map.mp (List.mem_of_mem_take hz)
          exact absurd (e2.trans ez) (sexIn_some es p' hp')
      obtain ⟨b, hb⟩ := hb
      clear hin hin1 hin2 hin3
      try dsimp only [tNext, gName]
      refine seq_asg ?_
      have efA := sA _ _ (B9 _ _ fp ef)
      have hSA : ∀ H', Same HA H' → SqT K H' f (Ts.map V.ref) := fun H' s => .inl (.inl (s _ _ efA))
      refine ⟨_, rfl, f, rfl, ⟨_, hSA _ (Same.refl _)⟩, fun D2 nD2 => ?_⟩
      refine lc_gen (walk_tup (K := K) (a := f) (xs := Ts.map V.ref)) (PY := fun i y H' => ∃ u q, y = .ref u ∧ ps[i]? = some q ∧ H' u = some (.tup [.str q.name, .str (sexC q.he)])) (by rw [List.length_map]; omega) (fun _ _ _ _ ⟨u, q, e1, e2, e3⟩ s => ⟨u, q, e1, e2, s _ _ e3⟩) nD2 (fun H' s => hSA H' s) ?_ ?_
      · rintro j v G G' hj sg ⟨acc, eA⟩ ⟨rfl, ev⟩ Q' hq
        rw [List.getElem?_map] at ev
        cases et : Ts[j]? with
        | none => rw [et] at ev; cases ev
        | some t =>
          rw [et] at ev
          cases ev
          obtain ⟨q', hq', ht⟩ := hrow j t et
          have tp := town_ne hT0 ht
          have htG := sg _ _ (sA _ _ (B9 _ _ tp ht))
          refine ⟨rfl, _, rfl, 2, rfl, t, _, rfl, .inl (.inl htG), (by show ¬ (HT.sIx 4 0 none = 0 ∧ HT.sIx 4 4 (some 2) = 4); decide +kernel), fun u nu => ?_⟩
          refine hq _ _ (same_upd nu) ⟨u, q', rfl, hq', hide_at (fun z => by rw [z, eA] at nu; cases nu) ?_⟩
          exact upd_same.trans (congrArg (fun z => some (HO.tup z)) (cut_take (k := 2)))
      intro HC ys sC eDC hys hrows
      obtain ⟨us, rfl, pr⟩ := paired_kv (K := K) (H := HC) (ps := ps) (ys := ys) (by rw [hys, List.length_map, hl]) fun i y hy => by
        obtain ⟨u, q', h1, h2, h3⟩ := hrows i y hy
        exact ⟨u, q', h1, h2, hide_sub _ _ h3⟩
      refine ⟨D2, us, kvOf ps, rfl, .inl (.inl eDC), pr, fun pd npd => ?_⟩
      rw [merge_kv hg.ap]
      have sE : Same H9 (upd HC pd (.dK (kvOf ps))) := sA.trans (sC.trans (same_upd npd))
      have ed : upd HC pd (.dK (kvOf ps)) pd = some (.dK (kvOf ps)) := upd_same
      generalize upd HC pd (.dK (kvOf ps)) = HE at sE ed ⊢
      clear npd pr hrows eDC hys sC nD2 hSA efA sA
      have dg : DGet HE pd (.str z2) (some (.str (sexC b))) := by
        have := DGet.k (k := Sum.inr z2) ed
        rw [val_sex, hb] at this
        exact this
      refine ⟨_, rfl, pd, _, rfl, dg, rfl, _, rfl, ?_⟩
      have efE := sE _ _ (B9 _ _ fp ef)
      have hTi : (Ts.map V.ref)[i]? = some (V.ref (Ts.getD i 0)) := by
        rw [List.getElem?_map, getD_some (l := Ts) (k := i) (d := 0) (by omega)]
        rfl
      obtain ⟨pi, hpi, hti⟩ := hrow i (Ts.getD i 0) (getD_some (by omega))
      have htE := sE _ _ (B9 _ _ (town_ne hT0 hti) hti)
      generalize Ts.getD i 0 = tq at hTi hti htE
      have fin : ∀ (k : Nat), k = 2 ∨ k = 3 → ∀ (σ' : L2.St), σ' = [some (.ref a), some (.ref p), some (.ref f), some (.ref D), some (.str z1), some (.ref l3), some (.int (i : Int)), some (.str z2), some (.ref t5), some (.int (k : Int)), none, none, none, none] →
          tSeq (tIfS (tB (tNotN (tOp (rIxT K) (tOp (rIxT K) (tVar 2) (tVar 6)) (tVar 9)))) (tRet (tTup (tCons (tVar 8) (tCons (tTup (tCons (tC (.str "refused")) (tCons (tC (.int 9)) tNil))) tNil)))) tNext)
            (tSeq (tAsg (tOp (rCatA K) (tOp (rCatA K) (tSl (rSlA K) (tOp (rIxT K) (tVar 2) (tVar 6)) tNoPart (tPart (tVar 9))) (tTup (tCons (tVar 7) tNil))) (tSl (rSlA K) (tOp (rIxT K) (tVar 2) (tVar 6)) (tPart (tOp (rI0 fun i j => .int (i + j)) (tVar 9) (tC (.int 1)))) tNoPart)) (gName 10))
              (tRet (tTup (tCons (tVar 8) (tCons (tOp (rCatA K) (tOp (rCatA K) (tSl (rSlA K) (tVar 2) tNoPart (tPart (tVar 6))) (tTup (tCons (tVar 10) tNil))) (tSl (rSlA K) (tVar 2) (tPart (tOp (rI0 fun i j => .int (i + j)) (tVar 6) (tC (.int 1)))) tNoPart)) tNil)))))
            { nx := fun _ H' => Q .non H', rt := Q } σ' HE := by
        rintro k hk σ' rfl
        have hat : ∃ v, atI (perV pi) (k : Int) = some v := by
          rcases hk with rfl | rfl
          · exact ⟨optV pi.fa, rfl⟩
          · exact ⟨optV pi.mo, rfl⟩
        obtain ⟨v, hat⟩ := hat
        refine seq_if ?_
        refine ⟨_, rfl, _, rfl, f, _, (i : Int), _, rfl, rfl, .inl (.inl efE), atI_nat hTi, _, rfl, tq, perV pi, (k : Int), v, rfl, rfl, .inl (.inl htE), hat, _, rfl, ?_⟩
        refine ite2 (fun _ => retB _ _ _ sE rfl (refT 9 _ _)) (fun _ => ?_)
        try dsimp only [tNext]
        refine seq_asg ?_
        have ix : ∀ G, Same HE G → EvT 4 (tOp (rIxT K) (tVar 2) (tVar 6)) [some (.ref a), some (.ref p), some (.ref f), some (.ref D), some (.str z1), some (.ref l3), some (.int (i : Int)), some (.str z2), some (.ref t5), some (.int (k : Int)), none, none, none, none] G := fun G s Q' q' =>
          ⟨_, rfl, _, rfl, f, _, (i : Int), _, rfl, rfl, .inl (.inl (s _ _ efE)), atI_nat hTi, q' tq (perV pi) G (Same.refl _) (s _ _ htE) (by show 4 ≤ 4; decide)⟩
        refine evt_cat (n := 4 + 1) (m := 4) (by decide) (evt_cat (n := 4) (m := 1) (by decide) (evt_sl (ix _ (Same.refl _)) (fun G Q' h => h none) (fun G Q' h => ⟨_, rfl, _, rfl, h _⟩)) (fun G' _ Q' q' => ⟨_, rfl, by show 1 ≤ sizeLine; decide, fun t nt => q' t _ _ (same_upd nt) upd_same (Nat.le_refl 1)⟩))
          (fun G' s => evt_sl (ix _ s) (fun G Q' h => ⟨_, rfl, _, _, rfl, rfl, _, rfl, h _⟩) (fun G Q' h => h none)) _ fun bq xs G1 s1 _ _ => ?_
        try dsimp only [gName]
        refine retB _ _ G1 (sE.trans s1) rfl fun Q' h => ?_
        have fm : ∀ G, Same HE G → EvT 40 (tVar 2) [some (.ref a), some (.ref p), some (.ref f), some (.ref D), some (.str z1), some (.ref l3), some (.int (i : Int)), some (.str z2), some (.ref t5), some (.int (k : Int)), some (.ref bq), none, none, none] G := fun G s Q' q' =>
          ⟨_, rfl, q' f _ G (Same.refl _) (s _ _ efE) (by rw [List.length_map, hl]; exact h40)⟩
        refine evt_cat (n := 40 + 1) (m := 40) (by decide) (evt_cat (n := 40) (m := 1) (by decide) (evt_sl (fm _ s1) (fun G Q' h => h none) (fun G Q' h => ⟨_, rfl, _, rfl, h _⟩)) (fun G' _ Q' q' => ⟨_, rfl, by show 1 ≤ sizeLine; decide, fun t nt => q' t _ _ (same_upd nt) upd_same (Nat.le_refl 1)⟩))
          (fun G' s => evt_sl (fm _ (s1.trans s)) (fun G Q' h => ⟨_, rfl, _, _, rfl, rfl, _, rfl, h _⟩) (fun G Q' h => h none)) _ fun c ys G2 s2 _ _ => h _ _ s2
      cases b with
      | true =>
        rw [show decide (V.str (sexC true) = V.str "he") = true by decide +kernel]
        exact iteT (fin 2 (.inl rfl) _ rfl)
      | false =>
        rw [show decide (V.str (sexC false) = V.str "he") = false by decide +kernel]
        exact iteF (fin 3 (.inr rfl) _ rfl)
end
end K17

set_option maxHeartbeats 8000000
namespace K17
open PySem PySem.Spec PyProof.Rows L2 Kin
/-! ### shapes -/
def Shp (n : Nat) (d : PyData) : Prop := d.canLay0 = true ∧ d.depth ≤ n
theorem shp_all {n : Nat} : ∀ {ds : List PyData}, (∀ d ∈ ds, Shp n d) → PyData.canLayAll0 ds = true ∧ PyData.depthAll ds ≤ n
  | [], _ => ⟨rfl, Nat.zero_le _⟩
  | d :: ds, h => by
    obtain ⟨h1, h2⟩ := h d List.mem_cons_self
    obtain ⟨i1, i2⟩ := shp_all fun e he => h e (List.mem_cons_of_mem _ he)
    refine ⟨?_, ?_⟩
    · show (d.canLay0 && PyData.canLayAll0 ds) = true
      rw [h1, i1]
      rfl
    · show max d.depth (PyData.depthAll ds) ≤ n
      omega
theorem shp_tup {n : Nat} {ds : List PyData} (h : ∀ d ∈ ds, Shp n d) : Shp (n + 1) (.tuple ds) := by
  obtain ⟨h1, h2⟩ := shp_all h
  exact ⟨h1, by show PyData.depthAll ds + 1 ≤ n + 1; omega⟩
theorem Shp.ok {n : Nat} {d : PyData} (h : Shp n d) (hn : n ≤ 64) : SeqAt.shaped d = true := by
  unfold SeqAt.shaped
  rw [h.1, Bool.true_and, decide_eq_true_eq]
  exact Nat.le_trans h.2 hn
theorem ok_letters {z : Str} (h : z.cps.toList.all letC = true) : PyData.strOk z = true := by
  have h1 : ∀ c ∈ z.cps.toList, c < 256 := fun c hc => by
    have hl := List.all_eq_true.mp h c hc
    have : c ∈ ("abcdefghijklmnopqrstuvwxyz" : Str).cps.toList := of_decide_eq_true hl
    exact of_decide_eq_true (List.all_eq_true.mp (show ("abcdefghijklmnopqrstuvwxyz" : Str).cps.toList.all (fun c => decide (c < 256)) = true by decide +kernel) c this)
  unfold PyData.strOk
  rw [← Array.all_toList]
  exact List.all_eq_true.mpr fun c hc => decide_eq_true (by have := h1 c hc; omega)
theorem shp_num {n : Nat} {m : Int} {d : PyData} (h : numD m d = true) : Shp n d := by
  cases d with
  | int i => exact ⟨rfl, Nat.zero_le _⟩
  | _ => cases h
theorem shp_let {n m : Nat} {d : PyData} (h : letD m d = true) : Shp n d := by
  cases d with
  | str z =>
    have h' : (decide (z.length ≤ m) && z.cps.toList.all letC) = true := h
    rw [Bool.and_eq_true] at h'
    exact ⟨ok_letters h'.2, Nat.zero_le _⟩
  | _ => cases h
theorem shp_stand {n : Nat} {m : Int} {d : PyData} (h : standD m d = true) : Shp (n + 1) d := by
  match d, h with
  | .tuple (w :: ns), h =>
    have h' : (decide (ns.length = 4) && letD 8 w && ns.all (numD m)) = true := h
    rw [Bool.and_eq_true, Bool.and_eq_true] at h'
    refine shp_tup fun e he => ?_
    rcases List.mem_cons.mp he with rfl | he
    · exact shp_let h'.1.2
    · exact shp_num (List.all_eq_true.mp h'.2 e he)
theorem shp_speech {d : PyData} (h : speechD d = true) : Shp 3 d := by
  match d, h with
  | .tuple [he, she, .tuple ss], h =>
    have h' : (decide (1 ≤ ss.length) && decide (ss.length ≤ 8) && numD (ss.length : Int) he && numD (ss.length : Int) she && ss.all (standD (ss.length : Int))) = true := h
    simp only [Bool.and_eq_true] at h'
    obtain ⟨⟨⟨⟨_, _⟩, h3⟩, h4⟩, h5⟩ := h'
    refine shp_tup fun e hm => ?_
    simp only [List.mem_cons, List.not_mem_nil, or_false] at hm
    rcases hm with rfl | rfl | rfl
    · exact shp_num h3
    · exact shp_num h4
    · exact shp_tup fun s hs => shp_stand (List.all_eq_true.mp h5 s hs)
theorem shaped_eqv {d : PyData} (h : SeqAt.shaped d = true) : PyData.eqv d d = true := SeqAt.eqv_refl d (by unfold SeqAt.shaped at h; rw [Bool.and_eq_true] at h; exact h.1)
theorem shp_name {n : Nat} {z : Str} (h : nameD (.str z) = true) : Shp n (.str z) := by
  have h' : (letD 6 (.str z) && !decide (z = "")) = true := h
  rw [Bool.and_eq_true] at h'
  exact shp_let h'.1
def optPD : Option Str → PyData
  | none => .none
  | some z => .str z
def perD (p : Per) : PyData := .tuple [.str p.name, .str (sexC p.he), optPD p.fa, optPD p.mo]
def famDat (ps : List Per) : PyData := .tuple (ps.map perD)
def momD (m : Mom) : PyData := .tuple [famDat m.ps, m.sd]
theorem shp_opt {n : Nat} {o : Option Str} (h : ∀ z, o = some z → nameD (.str z) = true) : Shp n (optPD o) := by
  cases o with
  | none => exact ⟨rfl, Nat.zero_le _⟩
  | some z => exact shp_name (h z rfl)
theorem shp_fam {ps : List Per} (g : FamG ps) : Shp 2 (famDat ps) := shp_tup fun d hd => by
  obtain ⟨p, hp, rfl⟩ := List.mem_map.mp hd
  have po := g.per p hp
  refine shp_tup fun e he => ?_
  simp only [List.mem_cons, List.not_mem_nil, or_false] at he
  rcases he with rfl | rfl | rfl | rfl
  · exact shp_name po.nm
  · exact ⟨by cases p.he <;> decide +kernel, Nat.zero_le _⟩
  · exact shp_opt po.fa
  · exact shp_opt po.mo
theorem Shp.mono {n m : Nat} {d : PyData} (h : Shp n d) (hm : n ≤ m) : Shp m d := ⟨h.1, Nat.le_trans h.2 hm⟩
theorem mom_sh {m : Mom} (g : FamG m.ps) (hs : speechD m.sd = true) : SeqAt.shaped (momD m) = true := Shp.ok (n := 4) (shp_tup fun e he => by
  simp only [List.mem_cons, List.not_mem_nil, or_false] at he
  rcases he with rfl | rfl
  · exact (shp_fam g).mono (by decide)
  · exact shp_speech hs) (by decide)
theorem dp_opt {K : PySem.W.Frag} {H : Hp} : ∀ o : Option Str, Dp K H (optV o) (optPD o)
  | none => .non
  | some z => .str z
theorem dpAll_of {K : PySem.W.Frag} {H : Hp} : ∀ {ds : List PyData} {ys : List V}, ys.length = ds.length → (∀ (i : Nat) (y : V), ys[i]? = some y → ∃ d, ds[i]? = some d ∧ Dp K H y d) → DpAll K H ys ds
  | [], [], _, _ => .nil
  | d :: ds, y :: ys, hl, h => by
    obtain ⟨e, he, hd⟩ := h 0 y rfl
    cases he
    exact .cons hd (dpAll_of (by simpa using hl) fun i z hz => h (i + 1) z hz)
theorem FamAt.dp {K : PySem.W.Frag} {H : Hp} {x : V} {ps : List Per} (f : FamAt H x ps) : Dp K H x (famDat ps) := by
  obtain ⟨a, Ts, rfl, h2, h3, h4⟩ := f.ex
  refine .tup (.inl (.inl h2)) (dpAll_of (by rw [List.length_map, List.length_map, h3]) fun i y hy => ?_)
  rw [List.getElem?_map] at hy
  cases e : Ts[i]? with
  | none => rw [e] at hy; cases hy
  | some t =>
    rw [e] at hy
    cases hy
    obtain ⟨p, hp, ht⟩ := h4 i t e
    exact ⟨perD p, by rw [List.getElem?_map, hp]; rfl, .tup (.inl (.inl ht)) (.cons (.str _) (.cons (.str _) (.cons (dp_opt _) (.cons (dp_opt _) .nil))))⟩
theorem MomAt.dp {K : PySem.W.Frag} {H : Hp} {fv sv : V} {m : Mom} {t : Addr} (h : MomAt H fv sv m) (e : H t = some (.tup [fv, sv])) : Dp K H (.ref t) (momD m) := .tup (.inl (.inl e)) (.cons h.fam.dp (.cons h.sp.dp .nil))
/-- two pairs that tell the same -/
theorem mom_ne {K : PySem.W.Frag} {H : Hp} {x y : V} {m : Mom} {Q : Bool → Hp → Prop} (hx : Dp K H x (momD m)) (hy : Dp K H y (momD m)) (g : FamG m.ps) (hs : speechD m.sd = true) (q : Q false H) : rNeD K x y H fun z H' => ∃ k, z = .bl k ∧ Q k H' :=
  ⟨_, _, hx, hy, mom_sh g hs, mom_sh g hs, false, by rw [shaped_eqv (mom_sh g hs)]; rfl, q⟩
theorem seq_forX {wi : TI} {g : TG} {tb : TS} {B : TS} {D : Ends} {σ : L2.St} {H : Hp} (h : tFor wi g tb { D with nx := B D } σ H) : tSeq (tFor wi g tb) B D σ H := h
theorem seq_if_any {c : TT} {A B C : TS} {D : Ends} {σ : L2.St} {H : Hp} (S : Hp → Prop) (R : L2.St → Hp → Prop) (hc : ∀ Q', (∀ b H', S H' → Q' b H') → c σ H Q') (hA : ∀ H' D', S H' → (∀ σ' H2, R σ' H2 → D'.nx σ' H2) → A D' σ H') (hB : ∀ H' D', S H' → (∀ σ' H2, R σ' H2 → D'.nx σ' H2) → B D' σ H')
    (hC : ∀ σ' H', R σ' H' → C D σ' H') : tSeq (tIfS c A B) C D σ H :=
  hc _ fun b H' hs => by
    cases b with
    | true => exact iteT (hA H' _ hs hC)
    | false => exact iteF (hB H' _ hs hC)
theorem asg_go {te : TE} {g : TG} {D : Ends} {σ : L2.St} {H : Hp} (h : te σ H fun x H1 => g x σ H1 D.nx) : tAsg te g D σ H := h
theorem cons_go {te : TE} {ta : TA} {σ : L2.St} {H : Hp} {Q : List V → Hp → Prop} (h : te σ H fun v H1 => ta σ H1 fun vs H2 => Q (v :: vs) H2) : tCons te ta σ H Q := h
theorem ne_go {r : R2} {te tb : TE} {σ : L2.St} {H : Hp} {Q : Bool → Hp → Prop} (h : te σ H fun x H1 => tb σ H1 fun y H2 => r x y H2 fun z H' => ∃ k, z = .bl k ∧ Q k H') : tTest (tOp r te tb) σ H Q := h
theorem eq_go {r : R2} {te tb : TE} {σ : L2.St} {H : Hp} {Q : VK} (h : te σ H fun x H1 => tb σ H1 fun y H2 => r x y H2 Q) : tOp r te tb σ H Q := h
abbrev ref12 : PyData := .tuple [.str "refused", .int 12]
theorem ref12_sh : SeqAt.shaped ref12 = true := by decide +kernel
/-- (h.family(), h.speech()) -/
theorem pair_go {K : PySem.W.Frag} {mg : Str → Option Value} {T : TxtH K mg} {E E' : XK} {j : Nat} {y k : Addr} {σ : L2.St} {G : Hp} {st : List Mom} {m : Mom} {Q : VK} (hj : σ[j]? = some (some (.ref y))) (h : HouseS T.cH G y k st m)
    (q : ∀ t fv sv G', Same G G' → G' t = some (.tup [fv, sv]) → MomAt G' fv sv m → Q (.ref t) G') :
    tTup (tCons (tMeth T.cH "family" (sp_fam T) [] E (tVar j) tNil) (tCons (tMeth T.cH "speech" (sp_spe T) [] E' (tVar j) tNil) tNil)) σ G Q := by
  obtain ⟨dx, fv, sv, ts, h1, hm, hL, hP⟩ := h.ex
  refine ⟨_, hj, y, dx, _, rfl, h1, fs_no (by decide +kernel) (by decide +kernel) (by decide +kernel), y, k, dx, fv, sv, rfl, h1, ?_⟩
  refine ⟨_, hj, y, dx, _, rfl, h1, fs_no (by decide +kernel) (by decide +kernel) (by decide +kernel), y, k, dx, fv, sv, rfl, h1, by show 2 ≤ sizeLine; decide, fun t nt => ?_⟩
  exact q t fv sv _ (same_upd nt) upd_same (hm.tups (same_tups (same_upd nt)))
/-! ### all that the law keeps -/
/-- the town at p, a house at x (its past at l), what is kept of it at al -/
structure Big (C : Addr) (H0 : Hp) (p x l al : Addr) (G : Hp) (st : List Mom) (m : Mom) (sa : List Mom) : Prop where
  but : SameBut p H0 G
  town : TownAt G p
  house : HouseS C G x l st m
  ahead : ∃ ts : List Addr, G al = some (.lst (ts.map V.ref)) ∧ Past G ts sa
  n0 : H0 x = none ∧ H0 l = none ∧ H0 al = none
  ne : x ≠ p ∧ l ≠ p ∧ al ≠ p ∧ al ≠ x ∧ al ≠ l
theorem but_tups {p : Addr} {G G' : Hp} (t : TownAt G p) (s : SameBut p G G') : Tups G G' := fun b xs e => s b _ (town_ne t e) e
theorem HouseS.but {C x l p : Addr} {G G' : Hp} {st : List Mom} {m : Mom} (h : HouseS C G x l st m) (t : TownAt G p) (s : SameBut p G G') (n1 : x ≠ p) (n2 : l ≠ p) : HouseS C G' x l st m := by
  have tp := but_tups t s
  obtain ⟨dx, fv, sv, ts, h1, h2, h3, h4⟩ := h.ex
  exact ⟨dx, fv, sv, ts, s _ _ n1 h1, h2.tups tp, s _ _ n2 h3, h4.tups tp⟩
theorem Big.to {C p x l al : Addr} {H0 G G' : Hp} {st : List Mom} {m : Mom} {sa : List Mom} (b : Big C H0 p x l al G st m sa) (t : TownAt G' p) (s : SameBut p G G') : Big C H0 p x l al G' st m sa := by
  obtain ⟨ts, h1, h2⟩ := b.ahead
  exact ⟨b.but.trans s, t, b.house.but b.town s b.ne.1 b.ne.2.1, ⟨ts, s _ _ b.ne.2.2.1 h1, h2.tups (but_tups b.town s)⟩, b.n0, b.ne⟩
theorem Big.same {C p x l al : Addr} {H0 G G' : Hp} {st : List Mom} {m : Mom} {sa : List Mom} (b : Big C H0 p x l al G st m sa) (s : Same G G') : Big C H0 p x l al G' st m sa := b.to (b.town.but s) s.but
theorem Big.keep {C p x l al : Addr} {H0 G G' : Hp} {st st' : List Mom} {m m' : Mom} {sa : List Mom} (b : Big C H0 p x l al G st m sa) (k : Keep x l G G') (h : HouseS C G' x l st' m') : Big C H0 p x l al G' st' m' sa := by
  obtain ⟨ts, h1, h2⟩ := b.ahead
  obtain ⟨i, j, hij, ep⟩ := b.town
  refine ⟨fun c o hc e => ?_, ⟨i, j, hij, k _ _ b.ne.1.symm b.ne.2.1.symm ep⟩, h, ⟨ts, k _ _ b.ne.2.2.2.1 b.ne.2.2.2.2 h1, h2.tups (b.house.tups k)⟩, b.n0, b.ne⟩
  exact k _ _ (fun z => by rw [z, b.n0.1] at e; cases e) (fun z => by rw [z, b.n0.2.1] at e; cases e) (b.but _ _ hc e)
theorem Big.app {C p x l al t : Addr} {H0 G : Hp} {st : List Mom} {m q : Mom} {sa : List Mom} {fv sv : V} {ts : List Addr} (b : Big C H0 p x l al G st m sa) (h1 : G al = some (.lst (ts.map V.ref))) (h2 : Past G ts sa) (et : G t = some (.tup [fv, sv])) (hq : MomAt G fv sv q) :
    Big C H0 p x l al (upd G al (.lst (ts.map V.ref ++ [V.ref t]))) st m (sa ++ [q]) := by
  have nb : ∀ c o, c ≠ al → G c = some o → upd G al (.lst (ts.map V.ref ++ [V.ref t])) c = some o := fun c o n e => by rw [upd_ne n]; exact e
  have tp : Tups G (upd G al (.lst (ts.map V.ref ++ [V.ref t]))) := fun c xs e => nb c _ (fun z => by rw [z, h1] at e; cases e) e
  obtain ⟨i, j, hij, ep⟩ := b.town
  obtain ⟨dx, fv', sv', ts', g1, g2, g3, g4⟩ := b.house.ex
  refine ⟨fun c o hc e => ?_, ⟨i, j, hij, nb _ _ b.ne.2.2.1.symm ep⟩, ⟨⟨dx, fv', sv', ts', nb _ _ b.ne.2.2.2.1.symm g1, g2.tups tp, nb _ _ b.ne.2.2.2.2.symm g3, g4.tups tp⟩⟩, ⟨ts ++ [t], ?_, (h2.tups tp).snoc (tp _ _ et) (hq.tups tp)⟩, b.n0, b.ne⟩
  · exact nb _ _ (fun z => by rw [z, b.n0.2.2] at e; cases e) (b.but _ _ hc e)
  · rw [upd_same, List.map_append]
    rfl
/-- and a second house at y -/
structure Two (C : Addr) (H0 : Hp) (p x l al y k : Addr) (G : Hp) (st : List Mom) (m : Mom) (sa sb : List Mom) (n : Mom) : Prop where
  big : Big C H0 p x l al G st m sa
  two : HouseS C G y k sb n
  n0 : H0 y = none ∧ H0 k = none
  ne : y ≠ p ∧ k ≠ p ∧ y ≠ x ∧ y ≠ l ∧ k ≠ x ∧ k ≠ l ∧ y ≠ al ∧ k ≠ al
theorem Two.to {C p x l al y k : Addr} {H0 G G' : Hp} {st sa sb : List Mom} {m n : Mom} (b : Two C H0 p x l al y k G st m sa sb n) (t : TownAt G' p) (s : SameBut p G G') : Two C H0 p x l al y k G' st m sa sb n := ⟨b.big.to t s, b.two.but b.big.town s b.ne.1 b.ne.2.1, b.n0, b.ne⟩
theorem Two.same {C p x l al y k : Addr} {H0 G G' : Hp} {st sa sb : List Mom} {m n : Mom} (b : Two C H0 p x l al y k G st m sa sb n) (s : Same G G') : Two C H0 p x l al y k G' st m sa sb n := b.to (b.big.town.but s) s.but
theorem Two.keep1 {C p x l al y k : Addr} {H0 G G' : Hp} {st st' sa sb : List Mom} {m m' n : Mom} (b : Two C H0 p x l al y k G st m sa sb n) (kp : Keep x l G G') (h : HouseS C G' x l st' m') : Two C H0 p x l al y k G' st' m' sa sb n :=
  ⟨b.big.keep kp h, b.two.other b.big.house b.ne.2.2.1 b.ne.2.2.2.1 b.ne.2.2.2.2.1 b.ne.2.2.2.2.2.1 kp, b.n0, b.ne⟩
theorem Two.keep2 {C p x l al y k : Addr} {H0 G G' : Hp} {st sa sb sb' : List Mom} {m n n' : Mom} (b : Two C H0 p x l al y k G st m sa sb n) (kp : Keep y k G G') (h : HouseS C G' y k sb' n') : Two C H0 p x l al y k G' st m sa sb' n' := by
  obtain ⟨ts, h1, h2⟩ := b.big.ahead
  obtain ⟨i, j, hij, ep⟩ := b.big.town
  refine ⟨⟨fun c o hc e => ?_, ⟨i, j, hij, kp _ _ b.ne.1.symm b.ne.2.1.symm ep⟩, b.big.house.other b.two b.ne.2.2.1.symm b.ne.2.2.2.2.1.symm b.ne.2.2.2.1.symm b.ne.2.2.2.2.2.1.symm kp, ⟨ts, kp _ _ b.ne.2.2.2.2.2.2.1.symm b.ne.2.2.2.2.2.2.2.symm h1, h2.tups (b.two.tups kp)⟩, b.big.n0, b.big.ne⟩, h, b.n0, b.ne⟩
  exact kp _ _ (fun z => by rw [z, b.n0.1] at e; cases e) (fun z => by rw [z, b.n0.2] at e; cases e) (b.big.but _ _ hc e)
theorem at_back {α : Type} {xs : List α} {i : Nat} {v : α} (hi : i < xs.length) (h : xs[xs.length - 1 - i]? = some v) : atI xs (-1 - (i : Int)) = some v := by
  have e : ixN xs.length (-1 - (i : Int)) = some (xs.length - 1 - i) := by
    unfold ixN
    rw [if_neg (by omega), if_pos (by omega)]
    exact congrArg some (by omega)
  unfold atI
  rw [e]
  exact h
theorem take_last {α : Type} {l : List α} {n : Nat} (h : n < l.length) : l.take (n + 1) = l.take n ++ [l[n]] := by
  rw [List.take_add_one, List.getElem?_eq_getElem h]
  rfl
def spLaw (K : PySem.W.Frag) : Sp := fun vs H Q _ => ∃ (a : Addr) (ns : List Int), vs = [.ref a] ∧ SqL K H a (ns.map V.int) ∧ ns.length ≤ 63 ∧ ∀ H', Q (.bl true) H'
section
variable {P : Program} {w : World} {K : PySem.W.Frag} {mg : Str → Option Value} {base : Heap}
theorem ok_law {aK f : Addr} {fd : FuncData} (T : TxtH K mg) (C : Cls K mg) (J : Js K mg C T aK) (F : Fun K "law" "law" s_law f fd) :
    FnOk P w K mg base CX0 9 f fd ["_law_script"] (spLaw K) := by
  have G_law_do := ok_law_do (P := P) (w := w) (base := base) T C J
  have G_law_deed := ok_law_deed (P := P) (w := w) (base := base) T.toTxt
  have G_law_draw : FnOk P w K mg base CX0 1 T.a_law_draw T.f_law_draw ["_law_script", "_law_town", "_law_many"] (sp_draw K) := ok_draw T.toTxt
  have G_law_speech := ok_law_speech (P := P) (w := w) (base := base) T.toTxt
  have G_family := ok_m_family (P := P) (w := w) (base := base) T
  have G_speech := ok_m_speech (P := P) (w := w) (base := base) T
  have G_len := ok_m_len (P := P) (w := w) (base := base) T
  have G_speak := ok_speak (P := P) (w := w) (base := base) T
  have G_twin := ok_twin (P := P) (w := w) (base := base) T
  have G_init := ok_init (P := P) (w := w) (base := base) T
  refine F.ok sc_law (fun vs H Q E h => ?_) (fun cdv A outer s H vs Q E hr h => ?_)
  · obtain ⟨a, ns, rfl, _⟩ := h
    rfl
  · obtain ⟨a, ns, rfl, hS, hlen, q⟩ := h
    refine ⟨_, (pss_cons (ps_set (i := 1) sc_law.nd rfl (Or.inl rfl) (pe_lst (pa_cons pe_int (pa_cons pe_int pa_nil))))
      (pss_cons (ps_par (i := 4) (j := 5) (by rfl) sc_law.nd rfl rfl (by decide) rfl rfl (pa_cons (pe_make T.mkH G_init (hr.mono (by decide)) rfl T.g_House T.b_m_init .nil passL (pa_cons (pe_call G_law_speech (hr.mono (by decide)) rfl T.d_law_speech.g T.d_law_speech.F.kp T.d_law_speech.b .nil pass0 (pa_cons (pv 0) (pa_cons (pv 1) (pa_cons pe_int pa_nil)))) pa_nil)) (pa_cons (pe_lst pa_nil) pa_nil)) (by rfl))
      (pss_cons (ps_for PassesOwn.never rfl (pi_range1 (by rfl) T.n_range (pa_cons pe_int pa_nil)) (pg_name (i := 2) sc_law.nd rfl (Or.inl rfl))
        (pss_cons (ps_set (i := 6) sc_law.nd rfl (Or.inl rfl) (pe_tup (pa_cons (pe_meth0 (pv 4) T.cl T.h_m_family G_family (hr.mono (by decide)) T.b_m_family .nil pass0) (pa_cons (pe_meth0 (pv 4) T.cl T.h_m_speech G_speech (hr.mono (by decide)) T.b_m_speech .nil pass0) pa_nil))))
        (pss_cons (ps_if (pt_cmpR op_eq (pe_call G_law_draw (hr.mono (by decide)) rfl T.d_law_draw.g T.d_law_draw.F.kp T.d_law_draw.b .nil pass0 (pa_cons (pv 0) (pa_cons (pv 1) (pa_cons pe_int pa_nil)))) pe_int (nomark _))
          (pss_one (ps_set (i := 10) sc_law.nd rfl (Or.inl rfl) (pe_tup (pa_cons pe_int (pa_cons (pe_call G_law_speech (hr.mono (by decide)) rfl T.d_law_speech.g T.d_law_speech.F.kp T.d_law_speech.b .nil pass0 (pa_cons (pv 0) (pa_cons (pv 1) (pa_cons pe_int pa_nil)))) (pa_cons pe_non (pa_cons pe_non (pa_cons pe_non pa_nil))))))))
          (pss_one (ps_set (i := 10) sc_law.nd rfl (Or.inl rfl) (pe_ix ix_tup (pe_call G_law_deed (hr.mono (by decide)) rfl T.d_law_deed.g T.d_law_deed.F.kp T.d_law_deed.b .nil pass0 (pa_cons (pv 0) (pa_cons (pv 1) (pa_cons (pe_ix ix_tup (pv 6) pe_int (fun _ _ => rfl)) pa_nil)))) pe_int (fun _ _ => rfl)))))
        (pss_one (ps_if (pt_cmp (pc_isN (pe_call G_law_do (hr.mono (by decide)) rfl T.d_law_do.g T.d_law_do.F.kp T.d_law_do.b .nil pass0 (pa_cons (pv 4) (pa_cons (pe_ix ix_tup (pv 10) pe_int (fun _ _ => rfl)) (pa_cons (pe_ix ix_tup (pv 10) pe_int (fun _ _ => rfl)) (pa_cons (pe_ix ix_tup (pv 10) pe_int (fun _ _ => rfl)) (pa_cons (pe_ix ix_tup (pv 10) pe_int (fun _ _ => rfl)) (pa_cons (pe_ix ix_tup (pv 10) pe_int (fun _ _ => rfl)) pa_nil)))))))))
          (pss_one (ps_expr (pe_bm PySem.F.plainAttrs_list PySem.F.slot_list_append PySem.F.type_list_append mt_append (pv 5) (pa_cons (pv 6) pa_nil))))
          pss_nil)))))
      (pss_cons (ps_par3 (i := 7) (j := 8) (l := 9) (by rfl) sc_law.nd rfl rfl rfl (by decide) (by decide) (by decide) rfl rfl rfl (pa_cons (pe_meth0 (pv 4) T.cl T.h_m_twin G_twin (hr.mono (by decide)) T.b_m_twin .nil pass0) (pa_cons (pe_tup (pa_cons (pe_meth0 (pv 4) T.cl T.h_m_family G_family (hr.mono (by decide)) T.b_m_family .nil pass0) (pa_cons (pe_meth0 (pv 4) T.cl T.h_m_speech G_speech (hr.mono (by decide)) T.b_m_speech .nil pass0) pa_nil))) (pa_cons (pe_callB call_len_seq (by rfl) T.n_len boot_len (pa_cons (pv 5) pa_nil)) pa_nil))) (by rfl))
      (pss_cons (ps_for PassesOwn.never rfl (pi_range1 (by rfl) T.n_range (pa_cons (pe_call G_law_draw (hr.mono (by decide)) rfl T.d_law_draw.g T.d_law_draw.F.kp T.d_law_draw.b .nil pass0 (pa_cons (pv 0) (pa_cons (pv 1) (pa_cons (pe_op op_add (pv 9) pe_int) pa_nil)))) pa_nil)) (pg_name (i := 2) sc_law.nd rfl (Or.inl rfl))
        (pss_cons (ps_if (pt_cmp (pc_notN (pe_call G_law_do (hr.mono (by decide)) rfl T.d_law_do.g T.d_law_do.F.kp T.d_law_do.b .nil pass0 (pa_cons (pv 4) (pa_cons pe_int (pa_cons pe_non (pa_cons pe_non (pa_cons pe_non (pa_cons pe_non pa_nil)))))))))
          (pss_one (ps_ret pe_bl))
          pss_nil)
        (pss_one (ps_if (pt_cmpR (op_neD hr.units) (pe_tup (pa_cons (pe_meth0 (pv 4) T.cl T.h_m_family G_family (hr.mono (by decide)) T.b_m_family .nil pass0) (pa_cons (pe_meth0 (pv 4) T.cl T.h_m_speech G_speech (hr.mono (by decide)) T.b_m_speech .nil pass0) pa_nil))) (pe_ix ix_list (pv 5) (pe_op op_sub (pe_un un_neg pe_int) (pv 2)) (fun _ _ => rfl)) (nomark _))
          (pss_one (ps_ret pe_bl))
          pss_nil))))
      (pss_cons (ps_set (i := 3) sc_law.nd rfl (Or.inl rfl) (pe_tup (pa_cons (pe_meth0 (pv 4) T.cl T.h_m_family G_family (hr.mono (by decide)) T.b_m_family .nil pass0) (pa_cons (pe_meth0 (pv 4) T.cl T.h_m_speech G_speech (hr.mono (by decide)) T.b_m_speech .nil pass0) pa_nil))))
      (pss_cons (ps_if (PW.pt (pw_or (pt_cmpR (op_neD hr.units) (pe_tup (pa_cons (pe_meth0 (pv 7) T.cl T.h_m_family G_family (hr.mono (by decide)) T.b_m_family .nil pass0) (pa_cons (pe_meth0 (pv 7) T.cl T.h_m_speech G_speech (hr.mono (by decide)) T.b_m_speech .nil pass0) pa_nil))) (pv 8) (nomark _)) (pw_or1 (pt_cmpR op_ne (pe_callB (call_len_own G_len (hr.mono (by decide)) T.h_m_len.at_ T.h_m_len.fn T.b_m_len) (by rfl) T.n_len boot_len (pa_cons (pv 7) pa_nil)) (pe_callB call_len_seq (by rfl) T.n_len boot_len (pa_cons (pe_ix ix_tup (pv 8) pe_int (fun _ _ => rfl)) pa_nil)) (nomark _)))))
        (pss_one (ps_ret pe_bl))
        pss_nil)
      (pss_cons (ps_expr (pe_meth (pv 7) T.cl T.h_m_speak G_speak (hr.mono (by decide)) T.b_m_speak .nil passL (pa_cons (pe_call G_law_speech (hr.mono (by decide)) rfl T.d_law_speech.g T.d_law_speech.F.kp T.d_law_speech.b .nil pass0 (pa_cons (pv 0) (pa_cons (pv 1) (pa_cons pe_int pa_nil)))) pa_nil)))
      (pss_cons (ps_for PassesOwn.never rfl (pi_range1 (by rfl) T.n_range (pa_cons (pe_op op_add (pv 9) pe_int) pa_nil)) (pg_name (i := 2) sc_law.nd rfl (Or.inl rfl))
        (pss_one (ps_if (pt_cmp (pc_notN (pe_call G_law_do (hr.mono (by decide)) rfl T.d_law_do.g T.d_law_do.F.kp T.d_law_do.b .nil pass0 (pa_cons (pv 7) (pa_cons pe_int (pa_cons pe_non (pa_cons pe_non (pa_cons pe_non (pa_cons pe_non pa_nil)))))))))
          (pss_one (ps_ret pe_bl))
          pss_nil)))
      (pss_cons (ps_if (PW.pt (pw_or (pt_cmpR (op_neD hr.units) (pe_call G_law_do (hr.mono (by decide)) rfl T.d_law_do.g T.d_law_do.F.kp T.d_law_do.b .nil pass0 (pa_cons (pv 7) (pa_cons pe_int (pa_cons pe_non (pa_cons pe_non (pa_cons pe_non (pa_cons pe_non pa_nil))))))) (pe_tup (pa_cons pe_str (pa_cons pe_int pa_nil))) (nomark _)) (pw_or1 (pt_cmpR (op_neD hr.units) (pe_meth0 (pv 7) T.cl T.h_m_family G_family (hr.mono (by decide)) T.b_m_family .nil pass0) (pe_tup pa_nil) (nomark _)))))
        (pss_one (ps_ret pe_bl))
        pss_nil)
      (pss_one (ps_ret (pe_cmpR (op_eqD hr.units) (pe_tup (pa_cons (pe_meth0 (pv 4) T.cl T.h_m_family G_family (hr.mono (by decide)) T.b_m_family .nil pass0) (pa_cons (pe_meth0 (pv 4) T.cl T.h_m_speech G_speech (hr.mono (by decide)) T.b_m_speech .nil pass0) pa_nil))) (pv 3) (nomark _)))))))))))))), ?_⟩
    -- town = [0, 0]
    refine ⟨by show 2 ≤ sizeLine; decide, fun p np => ?_⟩
    have hT1 : TownAt (upd H p (.lst [V.int 0, V.int 0])) p := ⟨0, 0, by decide, upd_same⟩
    have hB1 : Stb K (upd H p (.lst [V.int 0, V.int 0])) p a (ns.map V.int) := stb_new hS np
    clear hS np
    generalize upd H p (.lst [V.int 0, V.int 0]) = H0 at hT1 hB1 ⊢
    refine ⟨_, rfl, _, rfl, a, p, ns, 3, rfl, by decide, by decide, hB1, hlen, hT1, fun H2 sv sd td hsd T2 b2 => ?_⟩
    intro x dx nx ndx ne
    have c1 := same_upd (o := HO.own x) ndx
    have nx2 : (upd H2 dx (.own x)) x = none := by rw [upd_ne (Ne.symm ne)]; exact nx
    have c2 : Same H2 (upd (upd H2 dx (.own x)) x (.ins T.cH dx [])) := c1.trans (same_upd nx2)
    have c3 : upd (upd H2 dx (.own x)) x (.ins T.cH dx []) x = some (.ins T.cH dx []) := upd_same
    have xn : ∀ b o, H2 b = some o → b ≠ x := fun b o e z => by rw [z, nx] at e; cases e
    have b0 : ∀ c, H2 c = none → c ≠ p ∧ H0 c = none := fun c hc => by
      have cp := town_new T2 hc
      refine ⟨cp, ?_⟩
      cases e : H0 c with
      | none => rfl
      | some o => rw [b2 _ _ cp e] at hc; cases hc
    clear ndx c1 nx2 ne
    generalize upd (upd H2 dx (.own x)) x (.ins T.cH dx []) = H3 at c2 c3 ⊢
    refine ⟨x, dx, sv, sd, rfl, c3, td_tups td (same_tups c2), hsd, fun H4 l k4 h4 nl => ⟨rfl, ?_⟩⟩
    have s4 : Same H2 H4 := fun b o e => k4 b o (xn b o e) (c2 b o e)
    refine ⟨Nat.zero_le _, fun al nal => ?_⟩
    refine ⟨_, _, rfl, ?_⟩
    have l2 : H2 l = none := by
      cases e : H2 l with
      | none => rfl
      | some o => rw [c2 _ _ e] at nl; cases nl
    have al2 : H2 al = none := s4.free nal
    obtain ⟨dx', _, _, ts', g1, _, g3, _⟩ := h4.ex
    have alx : al ≠ x := fun z => by rw [z, g1] at nal; cases nal
    have all : al ≠ l := fun z => by rw [z, g3] at nal; cases nal
    have s5 := same_upd (o := .lst []) nal
    have big : Big T.cH H0 p x l al (upd H4 al (.lst [])) [] ⟨[], sd⟩ [] := ⟨b2.trans (s4.trans s5).but, T2.but (s4.trans s5), h4.mono s5, ⟨[], upd_same, Past.nil⟩, ⟨(b0 x nx).2, (b0 l l2).2, (b0 al al2).2⟩, ⟨(b0 x nx).1, (b0 l l2).1, (b0 al al2).1, alx, all⟩⟩
    generalize upd H4 al (.lst []) = H5 at big ⊢
    clear hT1 T2 b2 c2 c3 xn b0 k4 h4 nl s4 nal l2 al2 g1 g3 s5 alx all nx td
    try dsimp only [tNext, gName]
    refine seq_forX ?_
    refine ⟨10, rfl, by decide, by decide, ?_⟩
    refine for_range (lo := 0) (n := 10) (fun i σ G => ∃ (st : List Mom) (m : Mom) (z2 z6 z10 : Option V), Big T.cH H0 p x l al G st m st ∧ st.length ≤ i ∧ (∀ q ∈ m.ps, q.name ∈ tens) ∧ ((st ++ [m])[0]?).map Mom.ps = some [] ∧
      σ = [some (.ref a), some (.ref p), z2, none, some (.ref x), some (.ref al), z6, none, none, none, z10]) ⟨[], ⟨[], sd⟩, _, _, _, big, Nat.le_refl _, (fun q hq => by cases hq), rfl, rfl⟩ ?_ ?_
    · rintro i σ G hi ⟨st, m, z2, z6, z10, bg, hst, hnm, h0, rfl⟩
      have hi : i < 10 := hi
      dsimp only [gName]
      refine seq_asg ?_
      refine pair_go (T := T) rfl bg.house fun tb fv sv G1 s1 etb hm1 => ?_
      have bg1 := bg.same s1
      clear s1 bg
      dsimp only [gName]
      refine seq_if_any (fun G2 => Big T.cH H0 p x l al G2 st m st ∧ G2 tb = some (.tup [fv, sv]) ∧ MomAt G2 fv sv m)
        (fun σ' G3 => Big T.cH H0 p x l al G3 st m st ∧ G3 tb = some (.tup [fv, sv]) ∧ MomAt G3 fv sv m ∧ ∃ (td : Addr) (k : Nat) (y1 y2 y3 y4 : V) (d1 d2 d3 d4 : PyData), G3 td = some (.tup [.int (k : Nat), y1, y2, y3, y4]) ∧ k < 3 ∧ (k = 0 → ∃ z, d1 = .str z ∧ z ∈ tens) ∧
          Td true G3 y1 d1 ∧ Td true G3 y2 d2 ∧ Td true G3 y3 d3 ∧ Td true G3 y4 d4 ∧ (k = 2 → Td false G3 y1 d1 ∧ speechD d1 = true) ∧ ∃ z2 : Option V, σ' = [some (.ref a), some (.ref p), z2, none, some (.ref x), some (.ref al), some (.ref tb), none, none, none, some (.ref td)])
        (fun Q' h => ?_) (fun G2 D' hs h => ?_) (fun G2 D' hs h => ?_) (fun σ' G3 hR => ?_)
      · refine ⟨_, rfl, _, rfl, a, p, ns, 5, rfl, hB1.mono bg1.but, hlen, bg1.town, by decide, by decide, fun G2 r r0 r1 T2 b2 => ⟨rfl, _, rfl, h _ _ ⟨bg1.to T2 b2, b2 _ _ (town_ne bg1.town etb) etb, hm1.tups (but_tups bg1.town b2)⟩⟩⟩
      · obtain ⟨bg2, e2, m2⟩ := hs
        refine asg_go ?_
        refine ⟨_, rfl, _, rfl, a, p, ns, 2, rfl, by decide, by decide, hB1.mono bg2.but, hlen, bg2.town, fun G4 y d tdy hd T4 b4 => ?_⟩
        refine ⟨by show 5 ≤ sizeLine; decide, fun t nt => ?_⟩
        have s5 := same_upd (o := .tup [V.int 2, y, .non, .non, .non]) nt
        refine h _ _ ⟨(bg2.to T4 b4).same s5, s5 _ _ (b4 _ _ (town_ne bg2.town e2) e2), (m2.tups (but_tups bg2.town b4)).tups (same_tups s5), t, 2, y, .non, .non, .non, d, .none, .none, .none, upd_same, by decide, (fun h => by cases h), (td_tups tdy (same_tups s5)).lists, .non, .non, .non, fun _ => ⟨td_tups tdy (same_tups s5), hd⟩, _, rfl⟩
      · obtain ⟨bg2, e2, m2⟩ := hs
        refine asg_go ?_
        refine ⟨_, rfl, _, rfl, _, rfl, tb, _, 0, _, rfl, rfl, .inl (.inl e2), rfl, ?_⟩
        refine ⟨a, p, fv, ns, m.ps, rfl, hB1.mono bg2.but, hlen, bg2.town, m2.fam, m2.g, hnm, fun G4 r td due k y1 y2 y3 y4 d1 d2 d3 d4 er etd hk hk0 t1 t2 t3 t4 T4 b4 => ?_⟩
        refine ⟨r, _, 0, _, rfl, rfl, .inl (.inl er), rfl, ?_⟩
        exact h _ _ ⟨bg2.to T4 b4, b4 _ _ (town_ne bg2.town e2) e2, m2.tups (but_tups bg2.town b4), td, k, y1, y2, y3, y4, d1, d2, d3, d4, etd, by omega, hk0, t1, t2, t3, t4, (fun h => by omega), _, rfl⟩
      · obtain ⟨bg3, e3, m3, td, k, y1, y2, y3, y4, d1, d2, d3, d4, etd, hk, hk0, t1, t2, t3, t4, h2, z2, rfl⟩ := hR
        refine if_go ?_
        refine ⟨_, rfl, _, rfl, td, _, 0, _, rfl, rfl, .inl (.inl etd), rfl, _, rfl, td, _, 1, _, rfl, rfl, .inl (.inl etd), rfl, _, rfl, td, _, 2, _, rfl, rfl, .inl (.inl etd), rfl, _, rfl, td, _, 3, _, rfl, rfl, .inl (.inl etd), rfl, _, rfl, td, _, 4, _, rfl, rfl, .inl (.inl etd), rfl, ?_⟩
        refine ⟨x, l, k, st, m, y1, y2, y3, y4, d1, d2, d3, d4, rfl, by omega, bg3.house, by omega, t1, t2, t3, t4, h2, fun j _ _ G4 tr s4 etr => ?_, fun _ G4 m' k4 h4 nms => ?_, fun h => by omega⟩
        · refine ⟨_, rfl, ?_⟩
          rw [decide_eq_false (fun z => by cases z)]
          refine iteF ?_
          exact ⟨st, m, _, _, _, bg3.same s4, by omega, hnm, h0, rfl⟩
        · refine ⟨_, rfl, ?_⟩
          rw [decide_eq_true rfl]
          refine iteT ?_
          have bg4 := bg3.keep k4 h4
          obtain ⟨ts, hal, hP⟩ := bg4.ahead
          have tp := bg3.house.tups k4
          refine ⟨_, rfl, .inl ⟨rfl, _, .inl (.inl hal)⟩, _, rfl, al, _, _, rfl, rfl, hal, by rw [List.length_map, hP.1, sizeLine_eq]; omega, ?_⟩
          refine ⟨st ++ [m], m', _, _, _, bg4.app hal hP (tp _ _ e3) (m3.tups tp), by rw [List.length_append]; show st.length + 1 ≤ i + 1; omega, fun q' hq' => ?_, ?_, rfl⟩
          · rcases nms q' hq' with ⟨q0, hq0, e⟩ | ⟨hk', e⟩
            · rw [← e]
              exact hnm q0 hq0
            · obtain ⟨z, ez, hz⟩ := hk0 hk'
              rw [e] at ez
              cases ez
              exact hz
          · rw [List.getElem?_append_left (by rw [List.length_append]; show 0 < st.length + 1; omega)]
            exact h0
    rintro σ G ⟨st, m, z2, z6, z10, bg, hst, hnm, h0, rfl⟩
    have hst : st.length ≤ 10 := hst
    clear hnm big
    try dsimp only
    -- twin, now, many
    obtain ⟨dxG, _, _, tsG, gx, _, gl, _⟩ := bg.house.ex
    refine ⟨_, rfl, x, dxG, _, rfl, gx, fs_no (by decide +kernel) (by decide +kernel) (by decide +kernel), ?_⟩
    refine ⟨x, l, st, m, rfl, bg.house, fun G1 y k s1 ny nk hy => ?_⟩
    have two : Two T.cH H0 p x l al y k G1 st m st st m := by
      obtain ⟨ts, hal, _⟩ := bg.ahead
      have fr : ∀ c, G c = none → H0 c = none ∧ c ≠ p ∧ c ≠ x ∧ c ≠ l ∧ c ≠ al := fun c hc => by
        have cp := town_new bg.town hc
        refine ⟨?_, cp, fun z => (by rw [z, gx] at hc; cases hc), fun z => (by rw [z, gl] at hc; cases hc), fun z => (by rw [z, hal] at hc; cases hc)⟩
        cases e : H0 c with
        | none => rfl
        | some o => rw [bg.but _ _ cp e] at hc; cases hc
      obtain ⟨a1, a2, a3, a4, a5⟩ := fr y ny
      obtain ⟨c1, c2, c3, c4, c5⟩ := fr k nk
      exact ⟨bg.same s1, hy, ⟨a1, c1⟩, ⟨a2, c2, a3, a4, c3, c4, a5, c5⟩⟩
    clear gx gl s1 ny nk hy bg
    dsimp only
    refine cons_go ?_
    refine pair_go (T := T) (j := 4) (y := x) (k := l) (by rfl) two.big.house ?_
    intro tn fvn svn G2 s2 etn hmn
    have two2 := two.same s2
    clear two s2
    obtain ⟨ts2, hal2, hP2⟩ := two2.big.ahead
    refine ⟨_, rfl, al, _, rfl, .inl (.inl (.inl hal2)), _, _, _, rfl, ?_⟩
    have eln : ((List.map V.ref ts2).length : Int) = (st.length : Int) := by rw [List.length_map, hP2.1]
    rw [eln]
    clear hal2 hP2 eln
    try dsimp only [tNext, gName]
    -- some deeds are undone
    refine seq_forX ?_
    refine ⟨_, rfl, _, rfl, _, rfl, _, _, rfl, rfl, a, p, ns, _, rfl, hB1.mono two2.big.but, hlen, two2.big.town, by omega, by omega, fun G3 r r0 r1 T3 b3 => ?_⟩
    have two3 := two2.to T3 b3
    have etn3 := b3 _ _ (town_ne two2.big.town etn) etn
    have hmn3 := hmn.tups (but_tups two2.big.town b3)
    obtain ⟨rn, rfl⟩ : ∃ rn : Nat, r = (rn : Int) := ⟨r.toNat, by omega⟩
    have hrn : rn ≤ st.length := by omega
    clear two2 etn hmn T3 b3 r0 r1
    refine ⟨(rn : Int), rfl, by omega, by omega, ?_⟩
    refine for_range (lo := 0) (n := rn) (fun i σ G => ∃ (mi : Mom) (z2 : Option V), Two T.cH H0 p x l al y k G (st.take (st.length - i)) mi st st m ∧ G tn = some (.tup [fvn, svn]) ∧ MomAt G fvn svn m ∧
      σ = [some (.ref a), some (.ref p), z2, none, some (.ref x), some (.ref al), z6, some (.ref y), some (.ref tn), some (.int (st.length : Int)), z10]) ⟨m, _, by rw [Nat.sub_zero, List.take_length]; exact two3, etn3, hmn3, rfl⟩ ?_ ?_
    · rintro i σ G4 hi ⟨mi, z2', tw, et4, hm4, rfl⟩
      rw [Int.zero_add]
      have hlt : st.length - i - 1 < st.length := by omega
      have etk : st.take (st.length - i) = st.take (st.length - i - 1) ++ [st[st.length - i - 1]] := by
        have := take_last hlt
        rw [show st.length - i - 1 + 1 = st.length - i by omega] at this
        exact this
      dsimp only [gName]
      refine seq_if ?_
      refine ⟨_, rfl, x, l, 3, st.take (st.length - i), mi, .non, .non, .non, .non, .none, .none, .none, .none, rfl, by decide, tw.big.house, by rw [List.length_take]; omega, .non, .non, .non, .non, (fun h => by cases h), fun j h _ => ?_, fun h => absurd rfl h, fun _ st'' m'' e G5 k5 h5 => ?_⟩
      · have := (h rfl).1
        rw [etk] at this
        exact absurd this (List.append_ne_nil_of_right_ne_nil _ (List.cons_ne_nil _ _))
      · rw [etk] at e
        obtain ⟨e1, e2⟩ := List.append_inj' e rfl
        cases e2
        subst e1
        refine ⟨_, rfl, ?_⟩
        refine iteF ?_
        have tp := tw.big.house.tups k5
        have tw5 := tw.keep1 k5 h5
        have et5 := tp _ _ et4
        have hm5 := hm4.tups tp
        try dsimp only [tNext]
        refine if_go ?_
        refine ne_go ?_
        refine pair_go (T := T) rfl tw5.big.house fun tb fv sv G6 s6 etb hmb => ?_
        have tw6 := tw5.same s6
        obtain ⟨ts, hal, hP⟩ := tw6.big.ahead
        refine ⟨_, rfl, 1, rfl, _, rfl, _, _, rfl, rfl, ?_⟩
        have hj : st.length - 1 - i < ts.length := by rw [hP.1]; omega
        obtain ⟨fv', sv', mj, hmj, etj, hmj2⟩ := hP.2 (st.length - 1 - i) (ts[st.length - 1 - i]) (List.getElem?_eq_getElem hj)
        have emj : mj = st[st.length - i - 1] := by
          have e3 : st[st.length - 1 - i]? = some (st[st.length - i - 1]) := by
            rw [show st.length - 1 - i = st.length - i - 1 by omega]
            exact List.getElem?_eq_getElem hlt
          rw [e3] at hmj
          exact (Option.some.inj hmj).symm
        subst emj
        refine ⟨al, _, (-1 - (i : Int)), .ref (ts[st.length - 1 - i]), rfl, rfl, .inl (.inl hal), at_back (by rw [List.length_map, hP.1]; omega) (by rw [List.length_map, hP.1, List.getElem?_map, List.getElem?_eq_getElem hj]; rfl), ?_⟩
        refine mom_ne (hmb.dp etb) (hmj2.dp etj) hmb.g hmb.ok ?_
        refine iteF ?_
        exact ⟨_, _, by rw [show st.length - (i + 1) = st.length - i - 1 by omega]; exact tw6, s6 _ _ et5, hm5.tups (same_tups s6), rfl⟩
    rintro σ G4 ⟨mi, z2', tw, et4, hm4, rfl⟩
    clear two3 etn3 hmn3
    try dsimp only [tNext, gName]
    refine seq_asg ?_
    refine pair_go (T := T) (j := 4) (y := x) (k := l) (by rfl) tw.big.house ?_
    intro th fvh svh G5 s5 eth hmh
    have tw5 := tw.same s5
    have et5 := s5 _ _ et4
    have hm5 := hm4.tups (same_tups s5)
    clear tw et4 hm4 s5
    try dsimp only [tNext, gName]
    refine seq_if ?_
    refine ne_go ?_
    refine pair_go (T := T) (j := 7) (y := y) (k := k) (by rfl) tw5.two ?_
    intro tb fv sv G6 s6 etb hmb
    have tw6 := tw5.same s6
    have et6 := s6 _ _ et5
    have hm6 := hm5.tups (same_tups s6)
    have eth6 := s6 _ _ eth
    have hmh6 := hmh.tups (same_tups s6)
    clear tw5 et5 hm5 eth hmh s6
    refine ⟨_, rfl, mom_ne (hmb.dp etb) (hm6.dp et6) hmb.g hmb.ok ?_⟩
    refine iteF ?_
    obtain ⟨fa, Ts, rfl, fa1, fa2, _⟩ := hm6.fam.ex
    obtain ⟨dx6, _, _, _, gy, _, gk, _⟩ := tw6.two.ex
    refine ⟨_, rfl, y, dx6, _, rfl, gy, y, k, st, m, rfl, tw6.two, _, rfl, by omega, by have := hm6.g.most; omega, ?_⟩
    refine ⟨_, rfl, tn, _, 0, _, rfl, rfl, .inl (.inl et6), rfl, fa, _, rfl, .inr (.inl (.inl fa1)), rfl, _, rfl, ?_⟩
    rw [List.length_map, fa2]
    rw [show (!decide (V.int (m.ps.length : Int) = V.int (m.ps.length : Int))) = false by rw [decide_eq_true rfl]; rfl]
    refine iteF ?_
    try dsimp only [tNext]
    -- the twin speaks
    refine ⟨_, rfl, y, dx6, _, rfl, gy, fs_no (by decide +kernel) (by decide +kernel) (by decide +kernel), ?_⟩
    refine ⟨_, rfl, _, rfl, a, p, ns, 2, rfl, by decide, by decide, hB1.mono tw6.big.but, hlen, tw6.big.town, fun G7 v d tdv hd T7 b7 => ?_⟩
    have tw7 := tw6.to T7 b7
    have eth7 := b7 _ _ (town_ne tw6.big.town eth6) eth6
    have hmh7 := hmh6.tups (but_tups tw6.big.town b7)
    refine ⟨y, k, st, m, v, d, rfl, tw7.two, by omega, tdv, hd, fun G8 k8 h8 => ?_⟩
    have tw8 := tw7.keep2 k8 h8
    have tp8 := tw7.two.tups k8
    have eth8 := tp8 _ _ eth7
    have hmh8 := hmh7.tups tp8
    clear tw6 tw7 eth7 hmh7 tp8 k8 h8 T7 b7 eth6 hmh6 hm6 et6 gy gk
    have hW : (st ++ [m]).length = st.length + 1 := List.length_append
    generalize st ++ [m] = W at tw8 h0 hW
    try dsimp only [tNext]
    refine seq_forX ?_
    refine ⟨_, rfl, _, _, rfl, rfl, (st.length : Int) + 1, rfl, by omega, by omega, ?_⟩
    rw [show ((st.length : Int) + 1).toNat = st.length + 1 by omega]
    refine for_range (lo := 0) (n := st.length + 1) (fun i σ G => ∃ (mk : Mom) (z2 : Option V), Two T.cH H0 p x l al y k G (st.take (st.length - rn)) mi st (W.take (st.length + 1 - i)) mk ∧ (i = 0 ∨ W[st.length + 1 - i]? = some mk) ∧ G th = some (.tup [fvh, svh]) ∧ MomAt G fvh svh mi ∧
      σ = [some (.ref a), some (.ref p), z2, some (.ref th), some (.ref x), some (.ref al), z6, some (.ref y), some (.ref tn), some (.int (st.length : Int)), z10]) ⟨_, _, by rw [Nat.sub_zero, ← hW, List.take_length]; exact tw8, .inl rfl, eth8, hmh8, rfl⟩ ?_ ?_
    · rintro i σ G9 hi ⟨mk, z2'', tw, _, eth9, hmh9, rfl⟩
      rw [Int.zero_add]
      have hlt : st.length - i < W.length := by omega
      have etk : W.take (st.length + 1 - i) = W.take (st.length - i) ++ [W[st.length - i]] := by
        have := take_last hlt
        rw [show st.length - i + 1 = st.length + 1 - i by omega] at this
        exact this
      dsimp only [gName]
      refine if_go ?_
      refine ⟨_, rfl, y, k, 3, W.take (st.length + 1 - i), mk, .non, .non, .non, .non, .none, .none, .none, .none, rfl, by decide, tw.two, by rw [List.length_take]; omega, .non, .non, .non, .non, (fun h => by cases h), fun j h _ => ?_, fun h => absurd rfl h, fun _ st'' m'' e G5 k5 h5 => ?_⟩
      · have := (h rfl).1
        rw [etk] at this
        exact absurd this (List.append_ne_nil_of_right_ne_nil _ (List.cons_ne_nil _ _))
      · rw [etk] at e
        obtain ⟨e1, e2⟩ := List.append_inj' e rfl
        cases e2
        subst e1
        refine ⟨_, rfl, ?_⟩
        refine iteF ?_
        have tp := tw.two.tups k5
        exact ⟨_, _, by rw [show st.length + 1 - (i + 1) = st.length - i by omega]; exact tw.keep2 k5 h5, .inr (by rw [show st.length + 1 - (i + 1) = st.length - i by omega]; exact List.getElem?_eq_getElem hlt), tp _ _ eth9, hmh9.tups tp, rfl⟩
    rintro σ G9 ⟨mk, z2'', tw, hmk, eth9, hmh9, rfl⟩
    clear tw8 eth8 hmh8
    rw [Nat.sub_self] at tw hmk
    have tw : Two T.cH H0 p x l al y k G9 (st.take (st.length - rn)) mi st [] mk := tw
    have hps : mk.ps = [] := by
      rcases hmk with h | h
      · cases h
      · rw [h] at h0
        exact Option.some.inj h0
    try dsimp only [tNext, gName]
    refine seq_if ?_
    refine ne_go ?_
    refine ⟨_, rfl, y, k, 3, [], mk, .non, .non, .non, .non, .none, .none, .none, .none, rfl, by decide, tw.two, Nat.zero_le _, .non, .non, .non, .non, (fun h => by cases h), fun j h _ G10 t s10 et => ?_, fun h => absurd rfl h, fun _ st'' m'' e => absurd e.symm (List.append_ne_nil_of_right_ne_nil _ (List.cons_ne_nil _ _))⟩
    obtain ⟨_, rfl⟩ := h rfl
    refine ⟨by show 2 ≤ sizeLine; decide, fun t2 n2 => ?_⟩
    have s12 := s10.trans (same_upd (o := .tup [V.str "refused", V.int 12]) n2)
    refine ⟨ref12, ref12, .tup (.inl (.inl (same_upd n2 _ _ et))) (.cons (.str _) (.cons (.int _) .nil)), .tup (.inl (.inl upd_same)) (.cons (.str _) (.cons (.int _) .nil)), ref12_sh, ref12_sh, false, by rw [shaped_eqv ref12_sh]; rfl, ?_⟩
    generalize upd G10 t2 (.tup [V.str "refused", V.int 12]) = G11 at s12 ⊢
    have tw11 := tw.same s12
    have eth11 := s12 _ _ eth9
    have hmh11 := hmh9.tups (same_tups s12)
    clear tw eth9 hmh9 s12
    refine iteF ?_
    refine ne_go ?_
    obtain ⟨dy, fvy, svy, _, gy, gm, _, _⟩ := tw11.two.ex
    refine ⟨_, rfl, y, dy, _, rfl, gy, fs_no (by decide +kernel) (by decide +kernel) (by decide +kernel), y, k, dy, fvy, svy, rfl, gy, Nat.zero_le _, fun t3 n3 => ?_⟩
    have s13 := same_upd (o := .tup []) n3
    have fd := (gm.fam.tups (same_tups s13)).dp (K := K)
    rw [hps] at fd
    refine ⟨.tuple [], .tuple [], fd, .tup (.inl (.inl upd_same)) .nil, by decide +kernel, by decide +kernel, false, by decide +kernel, ?_⟩
    refine iteF ?_
    try dsimp only [tNext, tRet]
    have tw13 := tw11.same s13
    have eth13 := s13 _ _ eth11
    have hmh13 := hmh11.tups (same_tups s13)
    refine eq_go ?_
    refine pair_go (T := T) (j := 4) (y := x) (k := l) (by rfl) tw13.big.house ?_
    intro te fve sve G14 s14 ete hme
    refine ⟨_, rfl, momD mi, momD mi, hme.dp ete, (hmh13.tups (same_tups s14)).dp (s14 _ _ eth13), mom_sh hme.g hme.ok, mom_sh hme.g hme.ok, ?_⟩
    rw [shaped_eqv (mom_sh hme.g hme.ok)]
    exact q _
end
end K17

set_option maxHeartbeats 4000000
namespace K17
open PySem PySem.Spec PyProof.Rows L2 Kin
theorem all_mk {l : PySem.W.OpenLaw} {w : World} {K : PySem.W.Frag} {h : Heap} {mg : Str → Option Value} {fa f1 f2 f3 f4 f5 f6 f7 f8 f9 f10 f11 f12 f13 f14 f15 f16 f17 f18 f19 f20 C0 C1 C2 C3 C4 C5 C6 C7 C8 C9 C10 C11 C12 C13 aK ASEXES : Addr} (X : K.In h) (G : h.Ns mainGlobals mg) (hfa : mg "law" = some (.ref fa))
    {od1 an1 od2 an2 od3 an3 od4 an4 od5 an5 od6 an6 od7 an7 od8 an8 od9 an9 od10 an10 od11 an11 od12 an12 od13 an13 od14 an14 od15 an15 od16 an16 od17 an17 od18 an18 od19 an19 od20 an20 odSEXES : Option Addr} {sl1 sl2 sl3 sl4 sl5 sl6 sl7 sl8 sl9 sl10 sl11 sl12 sl13 sl14 sl15 sl16 sl17 sl18 sl19 sl20 slSEXES : Array (Option Value)}
    {oc1 kV1 dc1 pm1 cd1 ct1 oc2 kV2 dc2 pm2 cd2 ct2 oc3 kV3 dc3 pm3 cd3 ct3 oc4 kV4 dc4 pm4 cd4 ct4 oc5 kV5 dc5 pm5 cd5 ct5 oc6 kV6 dc6 pm6 cd6 ct6 oc7 kV7 dc7 pm7 cd7 ct7 oc8 kV8 dc8 pm8 cd8 ct8 oc9 kV9 dc9 pm9 cd9 ct9 oc10 kV10 dc10 pm10 cd10 ct10 oc11 kV11 dc11 pm11 cd11 ct11 oc12 kV12 dc12 pm12 cd12 ct12 oc13 kV13 dc13 pm13 cd13 ct13 oc14 kV14 dc14 pm14 cd14 ct14 oc15 kV15 dc15 pm15 cd15 ct15 oc16 kV16 dc16 pm16 cd16 ct16 oc17 kV17 dc17 pm17 cd17 ct17 oc18 kV18 dc18 pm18 cd18 ct18 oc19 kV19 dc19 pm19 cd19 ct19 oc20 kV20 dc20 pm20 cd20 ct20 : Value} {tk0 tk2 tk3 tk4 tk5 tk6 thSEXES0 thSEXES1 : Tok} {nnSEXES : Nat}
    {CH m_init m_len m_become m_born TDborn m_found m_speak m_undo m_family m_speech m_twin : Addr} {mod_init man_init mod_len man_len mod_become man_become mod_born man_born modT_born mod_found man_found mod_speak man_speak mod_undo man_undo mod_family man_family mod_speech man_speech mod_twin man_twin : Option Addr} {msl_init msl_len msl_become msl_born mslT_born msl_found msl_speak msl_undo msl_family msl_speech msl_twin : Array (Option Value)} {moc_init mkV_init mdc_init mpm_init mcd_init mct_init moc_len mkV_len mdc_len mpm_len mcd_len mct_len moc_become mkV_become mdc_become mpm_become mcd_become mct_become moc_born mkV_born mdc_born mpm_born mcd_born mct_born moc_found mkV_found mdc_found mpm_found mcd_found mct_found moc_speak mkV_speak mdc_speak mpm_speak mcd_speak mct_speak moc_undo mkV_undo mdc_undo mpm_undo mcd_undo mct_undo moc_family mkV_family mdc_family mpm_family mcd_family mct_family moc_speech mkV_speech mdc_speech mpm_speech mcd_speech mct_speech moc_twin mkV_twin mdc_twin mpm_twin mcd_twin mct_twin : Value} {mnT_born : Nat}
    (a1 : PySem.W.nsIn K mainGlobals "is_letters" = some (some (.ref f1))) (l1 : K.lookup f1 = some ⟨oc1, od1, .func (PySem.W.fnOf "is_letters" "is_letters" (defArgs s_is_letters) (defBody s_is_letters) (defScope s_is_letters) .none kV1 dc1 pm1 an1 cd1 ct1), sl1⟩) (c1 : PySem.W.codeIn K cd1 "is_letters" = true) (k1 : PySem.W.keepIn K (.ref f1) = true)
    (a2 : PySem.W.nsIn K mainGlobals "is_name" = some (some (.ref f2))) (l2 : K.lookup f2 = some ⟨oc2, od2, .func (PySem.W.fnOf "is_name" "is_name" (defArgs s_is_name) (defBody s_is_name) (defScope s_is_name) .none kV2 dc2 pm2 an2 cd2 ct2), sl2⟩) (c2 : PySem.W.codeIn K cd2 "is_name" = true) (k2 : PySem.W.keepIn K (.ref f2) = true)
    (a3 : PySem.W.nsIn K mainGlobals "is_sex" = some (some (.ref f3))) (l3 : K.lookup f3 = some ⟨oc3, od3, .func (PySem.W.fnOf "is_sex" "is_sex" (defArgs s_is_sex) (defBody s_is_sex) (defScope s_is_sex) .none kV3 dc3 pm3 an3 cd3 ct3), sl3⟩) (c3 : PySem.W.codeIn K cd3 "is_sex" = true) (k3 : PySem.W.keepIn K (.ref f3) = true)
    (a4 : PySem.W.nsIn K mainGlobals "need_name" = some (some (.ref f4))) (l4 : K.lookup f4 = some ⟨oc4, od4, .func (PySem.W.fnOf "need_name" "need_name" (defArgs s_need_name) (defBody s_need_name) (defScope s_need_name) .none kV4 dc4 pm4 an4 cd4 ct4), sl4⟩) (c4 : PySem.W.codeIn K cd4 "need_name" = true) (k4 : PySem.W.keepIn K (.ref f4) = true)
    (a5 : PySem.W.nsIn K mainGlobals "need_sex" = some (some (.ref f5))) (l5 : K.lookup f5 = some ⟨oc5, od5, .func (PySem.W.fnOf "need_sex" "need_sex" (defArgs s_need_sex) (defBody s_need_sex) (defScope s_need_sex) .none kV5 dc5 pm5 an5 cd5 ct5), sl5⟩) (c5 : PySem.W.codeIn K cd5 "need_sex" = true) (k5 : PySem.W.keepIn K (.ref f5) = true)
    (a6 : PySem.W.nsIn K mainGlobals "is_word" = some (some (.ref f6))) (l6 : K.lookup f6 = some ⟨oc6, od6, .func (PySem.W.fnOf "is_word" "is_word" (defArgs s_is_word) (defBody s_is_word) (defScope s_is_word) .none kV6 dc6 pm6 an6 cd6 ct6), sl6⟩) (c6 : PySem.W.codeIn K cd6 "is_word" = true) (k6 : PySem.W.keepIn K (.ref f6) = true)
    (a7 : PySem.W.nsIn K mainGlobals "is_number" = some (some (.ref f7))) (l7 : K.lookup f7 = some ⟨oc7, od7, .func (PySem.W.fnOf "is_number" "is_number" (defArgs s_is_number) (defBody s_is_number) (defScope s_is_number) .none kV7 dc7 pm7 an7 cd7 ct7), sl7⟩) (c7 : PySem.W.codeIn K cd7 "is_number" = true) (k7 : PySem.W.keepIn K (.ref f7) = true)
    (a8 : PySem.W.nsIn K mainGlobals "is_stand" = some (some (.ref f8))) (l8 : K.lookup f8 = some ⟨oc8, od8, .func (PySem.W.fnOf "is_stand" "is_stand" (defArgs s_is_stand) (defBody s_is_stand) (defScope s_is_stand) .none kV8 dc8 pm8 an8 cd8 ct8), sl8⟩) (c8 : PySem.W.codeIn K cd8 "is_stand" = true) (k8 : PySem.W.keepIn K (.ref f8) = true)
    (a9 : PySem.W.nsIn K mainGlobals "is_speech" = some (some (.ref f9))) (l9 : K.lookup f9 = some ⟨oc9, od9, .func (PySem.W.fnOf "is_speech" "is_speech" (defArgs s_is_speech) (defBody s_is_speech) (defScope s_is_speech) .none kV9 dc9 pm9 an9 cd9 ct9), sl9⟩) (c9 : PySem.W.codeIn K cd9 "is_speech" = true) (k9 : PySem.W.keepIn K (.ref f9) = true)
    (a10 : PySem.W.nsIn K mainGlobals "need_speech" = some (some (.ref f10))) (l10 : K.lookup f10 = some ⟨oc10, od10, .func (PySem.W.fnOf "need_speech" "need_speech" (defArgs s_need_speech) (defBody s_need_speech) (defScope s_need_speech) .none kV10 dc10 pm10 an10 cd10 ct10), sl10⟩) (c10 : PySem.W.codeIn K cd10 "need_speech" = true) (k10 : PySem.W.keepIn K (.ref f10) = true)
    (a11 : PySem.W.nsIn K mainGlobals "sex_among" = some (some (.ref f11))) (l11 : K.lookup f11 = some ⟨oc11, od11, .func (PySem.W.fnOf "sex_among" "sex_among" (defArgs s_sex_among) (defBody s_sex_among) (defScope s_sex_among) .none kV11 dc11 pm11 an11 cd11 ct11), sl11⟩) (c11 : PySem.W.codeIn K cd11 "sex_among" = true) (k11 : PySem.W.keepIn K (.ref f11) = true)
    (a12 : PySem.W.nsIn K mainGlobals "need_parent" = some (some (.ref f12))) (l12 : K.lookup f12 = some ⟨oc12, od12, .func (PySem.W.fnOf "need_parent" "need_parent" (defArgs s_need_parent) (defBody s_need_parent) (defScope s_need_parent) .none kV12 dc12 pm12 an12 cd12 ct12), sl12⟩) (c12 : PySem.W.codeIn K cd12 "need_parent" = true) (k12 : PySem.W.keepIn K (.ref f12) = true)
    (a13 : PySem.W.nsIn K mainGlobals "with_parent" = some (some (.ref f13))) (l13 : K.lookup f13 = some ⟨oc13, od13, .func (PySem.W.fnOf "with_parent" "with_parent" (defArgs s_with_parent) (defBody s_with_parent) (defScope s_with_parent) .none kV13 dc13 pm13 an13 cd13 ct13), sl13⟩) (c13 : PySem.W.codeIn K cd13 "with_parent" = true) (k13 : PySem.W.keepIn K (.ref f13) = true)
    (a14 : PySem.W.nsIn K mainGlobals "_law_draw" = some (some (.ref f14))) (l14 : K.lookup f14 = some ⟨oc14, od14, .func (PySem.W.fnOf "_law_draw" "_law_draw" (defArgs s_law_draw) (defBody s_law_draw) (defScope s_law_draw) .none kV14 dc14 pm14 an14 cd14 ct14), sl14⟩) (c14 : PySem.W.codeIn K cd14 "_law_draw" = true) (k14 : PySem.W.keepIn K (.ref f14) = true)
    (a15 : PySem.W.nsIn K mainGlobals "_law_pick" = some (some (.ref f15))) (l15 : K.lookup f15 = some ⟨oc15, od15, .func (PySem.W.fnOf "_law_pick" "_law_pick" (defArgs s_law_pick) (defBody s_law_pick) (defScope s_law_pick) .none kV15 dc15 pm15 an15 cd15 ct15), sl15⟩) (c15 : PySem.W.codeIn K cd15 "_law_pick" = true) (k15 : PySem.W.keepIn K (.ref f15) = true)
    (a16 : PySem.W.nsIn K mainGlobals "_law_speech" = some (some (.ref f16))) (l16 : K.lookup f16 = some ⟨oc16, od16, .func (PySem.W.fnOf "_law_speech" "_law_speech" (defArgs s_law_speech) (defBody s_law_speech) (defScope s_law_speech) .none kV16 dc16 pm16 an16 cd16 ct16), sl16⟩) (c16 : PySem.W.codeIn K cd16 "_law_speech" = true) (k16 : PySem.W.keepIn K (.ref f16) = true)
    (a17 : PySem.W.nsIn K mainGlobals "_law_which" = some (some (.ref f17))) (l17 : K.lookup f17 = some ⟨oc17, od17, .func (PySem.W.fnOf "_law_which" "_law_which" (defArgs s_law_which) (defBody s_law_which) (defScope s_law_which) .none kV17 dc17 pm17 an17 cd17 ct17), sl17⟩) (c17 : PySem.W.codeIn K cd17 "_law_which" = true) (k17 : PySem.W.keepIn K (.ref f17) = true)
    (a18 : PySem.W.nsIn K mainGlobals "_law_do" = some (some (.ref f18))) (l18 : K.lookup f18 = some ⟨oc18, od18, .func (PySem.W.fnOf "_law_do" "_law_do" (defArgs s_law_do) (defBody s_law_do) (defScope s_law_do) .none kV18 dc18 pm18 an18 cd18 ct18), sl18⟩) (c18 : PySem.W.codeIn K cd18 "_law_do" = true) (k18 : PySem.W.keepIn K (.ref f18) = true)
    (a19 : PySem.W.nsIn K mainGlobals "_law_deed" = some (some (.ref f19))) (l19 : K.lookup f19 = some ⟨oc19, od19, .func (PySem.W.fnOf "_law_deed" "_law_deed" (defArgs s_law_deed) (defBody s_law_deed) (defScope s_law_deed) .none kV19 dc19 pm19 an19 cd19 ct19), sl19⟩) (c19 : PySem.W.codeIn K cd19 "_law_deed" = true) (k19 : PySem.W.keepIn K (.ref f19) = true)
    (a20 : PySem.W.nsIn K mainGlobals "law" = some (some (.ref f20))) (l20 : K.lookup f20 = some ⟨oc20, od20, .func (PySem.W.fnOf "law" "law" (defArgs s_law) (defBody s_law) (defScope s_law) .none kV20 dc20 pm20 an20 cd20 ct20), sl20⟩) (c20 : PySem.W.codeIn K cd20 "law" = true) (k20 : PySem.W.keepIn K (.ref f20) = true)
    (g0 : PySem.W.nsIn K mainGlobals "NoFamily" = some (some (.ref C0)))
    (g1 : PySem.W.nsIn K mainGlobals "NotPlain" = some (some (.ref C1)))
    (g2 : PySem.W.nsIn K mainGlobals "NoName" = some (some (.ref C2)))
    (g3 : PySem.W.nsIn K mainGlobals "NoSex" = some (some (.ref C3)))
    (g4 : PySem.W.nsIn K mainGlobals "NoRow" = some (some (.ref C4)))
    (g5 : PySem.W.nsIn K mainGlobals "NoSpeech" = some (some (.ref C5)))
    (g6 : PySem.W.nsIn K mainGlobals "NotSure" = some (some (.ref C6)))
    (g7 : PySem.W.nsIn K mainGlobals "NoWord" = some (some (.ref C7)))
    (g8 : PySem.W.nsIn K mainGlobals "TooMany" = some (some (.ref C8)))
    (g9 : PySem.W.nsIn K mainGlobals "NoParent" = some (some (.ref C9)))
    (g10 : PySem.W.nsIn K mainGlobals "Taken" = some (some (.ref C10)))
    (g11 : PySem.W.nsIn K mainGlobals "Full" = some (some (.ref C11)))
    (g12 : PySem.W.nsIn K mainGlobals "NoDeed" = some (some (.ref C12)))
    (g13 : PySem.W.nsIn K mainGlobals "NoText" = some (some (.ref C13)))
    (gK : PySem.W.nsIn K mainGlobals "KinError" = some (some (.ref aK)))
    (n_ValueError : PySem.W.nsIn K mainGlobals "ValueError" = some none)
    (n_all : PySem.W.nsIn K mainGlobals "all" = some none)
    (n_bool : PySem.W.nsIn K mainGlobals "bool" = some none)
    (n_dict : PySem.W.nsIn K mainGlobals "dict" = some none)
    (n_int : PySem.W.nsIn K mainGlobals "int" = some none)
    (n_isinstance : PySem.W.nsIn K mainGlobals "isinstance" = some none)
    (n_len : PySem.W.nsIn K mainGlobals "len" = some none)
    (n_list : PySem.W.nsIn K mainGlobals "list" = some none)
    (n_range : PySem.W.nsIn K mainGlobals "range" = some none)
    (n_str : PySem.W.nsIn K mainGlobals "str" = some none)
    (n_tuple : PySem.W.nsIn K mainGlobals "tuple" = some none)
    (h_LETTERS : PySem.W.nsIn K mainGlobals "LETTERS" = some (some (.str "abcdefghijklmnopqrstuvwxyz" tk0)))
    (h_SEXES : PySem.W.nsIn K mainGlobals "SEXES" = some (some (.ref ASEXES))) (l_SEXES : K.lookup ASEXES = some ⟨.type "tuple", odSEXES, .seq #[.str "he" thSEXES0, .str "she" thSEXES1] nnSEXES, slSEXES⟩)
    (h_MOST_LETTERS : PySem.W.nsIn K mainGlobals "MOST_LETTERS" = some (some (.int 6 tk2)))
    (h_MOST_PERSONS : PySem.W.nsIn K mainGlobals "MOST_PERSONS" = some (some (.int 40 tk3)))
    (h_STEPS : PySem.W.nsIn K mainGlobals "STEPS" = some (some (.str "fmsd" tk4)))
    (h_MOST_STANDS : PySem.W.nsIn K mainGlobals "MOST_STANDS" = some (some (.int 8 tk5)))
    (h_MOST_WORD : PySem.W.nsIn K mainGlobals "MOST_WORD" = some (some (.int 8 tk6)))
    (xj2 : PySem.W.excIn K C2 [.type "ValueError", .type "Exception", .type "BaseException", .type "object"] "ValueError.__new__" = true) (pj2 : PySem.W.keepIn K (.ref C2) = true) (bj2 : PySem.W.subIn K (.ref C2) (.type "BaseException") = some true) (tj2 : PySem.W.typeIn K (.ref C2) = some (.type "type"))
    (xj3 : PySem.W.excIn K C3 [.type "ValueError", .type "Exception", .type "BaseException", .type "object"] "ValueError.__new__" = true) (pj3 : PySem.W.keepIn K (.ref C3) = true) (bj3 : PySem.W.subIn K (.ref C3) (.type "BaseException") = some true) (tj3 : PySem.W.typeIn K (.ref C3) = some (.type "type"))
    (xj5 : PySem.W.excIn K C5 [.type "ValueError", .type "Exception", .type "BaseException", .type "object"] "ValueError.__new__" = true) (pj5 : PySem.W.keepIn K (.ref C5) = true) (bj5 : PySem.W.subIn K (.ref C5) (.type "BaseException") = some true) (tj5 : PySem.W.typeIn K (.ref C5) = some (.type "type"))
    (xj9 : PySem.W.excIn K C9 [.type "ValueError", .type "Exception", .type "BaseException", .type "object"] "ValueError.__new__" = true) (pj9 : PySem.W.keepIn K (.ref C9) = true) (bj9 : PySem.W.subIn K (.ref C9) (.type "BaseException") = some true) (tj9 : PySem.W.typeIn K (.ref C9) = some (.type "type"))
    (xj10 : PySem.W.excIn K C10 [.type "ValueError", .type "Exception", .type "BaseException", .type "object"] "ValueError.__new__" = true) (pj10 : PySem.W.keepIn K (.ref C10) = true) (bj10 : PySem.W.subIn K (.ref C10) (.type "BaseException") = some true) (tj10 : PySem.W.typeIn K (.ref C10) = some (.type "type"))
    (xj11 : PySem.W.excIn K C11 [.type "ValueError", .type "Exception", .type "BaseException", .type "object"] "ValueError.__new__" = true) (pj11 : PySem.W.keepIn K (.ref C11) = true) (bj11 : PySem.W.subIn K (.ref C11) (.type "BaseException") = some true) (tj11 : PySem.W.typeIn K (.ref C11) = some (.type "type"))
    (xj12 : PySem.W.excIn K C12 [.type "ValueError", .type "Exception", .type "BaseException", .type "object"] "ValueError.__new__" = true) (pj12 : PySem.W.keepIn K (.ref C12) = true) (bj12 : PySem.W.subIn K (.ref C12) (.type "BaseException") = some true) (tj12 : PySem.W.typeIn K (.ref C12) = some (.type "type"))
    (ej21 : PySem.W.findIn K (.ref C2) "__getattribute__" = some (some (.builtin "BaseException.__getattribute__"))) (ej22 : PySem.W.findIn K (.ref C2) "__getattr__" = some none) (ej23 : PySem.W.hasDictIn K C2 = true) (ej24 : PySem.W.findIn K (.ref C2) "__class__" = some (some (.builtin "object.__class__"))) (ej25 : PySem.W.mroIn K C2 (.type "object") = some true)
    (yj2m0 : PySem.W.subIn K (.ref C2) (.ref C0) = some false)
    (yj2m1 : PySem.W.subIn K (.ref C2) (.ref C1) = some false)
    (yj2m2 : PySem.W.subIn K (.ref C2) (.ref C2) = some true)
    (yj2m3 : PySem.W.subIn K (.ref C2) (.ref C3) = some false)
    (yj2m4 : PySem.W.subIn K (.ref C2) (.ref C4) = some false)
    (yj2m5 : PySem.W.subIn K (.ref C2) (.ref C5) = some false)
    (yj2m6 : PySem.W.subIn K (.ref C2) (.ref C6) = some false)
    (yj2m7 : PySem.W.subIn K (.ref C2) (.ref C7) = some false)
    (yj2m8 : PySem.W.subIn K (.ref C2) (.ref C8) = some false)
    (yj2m9 : PySem.W.subIn K (.ref C2) (.ref C9) = some false)
    (yj2m10 : PySem.W.subIn K (.ref C2) (.ref C10) = some false)
    (yj2m11 : PySem.W.subIn K (.ref C2) (.ref C11) = some false)
    (yj2m12 : PySem.W.subIn K (.ref C2) (.ref C12) = some false)
    (yj2m13 : PySem.W.subIn K (.ref C2) (.ref C13) = some false)
    (yj2v : PySem.W.subIn K (.ref C2) (.type "ValueError") = some true) (yj2K : PySem.W.subIn K (.ref C2) (.ref aK) = some true)
    (ej31 : PySem.W.findIn K (.ref C3) "__getattribute__" = some (some (.builtin "BaseException.__getattribute__"))) (ej32 : PySem.W.findIn K (.ref C3) "__getattr__" = some none) (ej33 : PySem.W.hasDictIn K C3 = true) (ej34 : PySem.W.findIn K (.ref C3) "__class__" = some (some (.builtin "object.__class__"))) (ej35 : PySem.W.mroIn K C3 (.type "object") = some true)
    (yj3m0 : PySem.W.subIn K (.ref C3) (.ref C0) = some false)
    (yj3m1 : PySem.W.subIn K (.ref C3) (.ref C1) = some false)
    (yj3m2 : PySem.W.subIn K (.ref C3) (.ref C2) = some false)
    (yj3m3 : PySem.W.subIn K (.ref C3) (.ref C3) = some true)
    (yj3m4 : PySem.W.subIn K (.ref C3) (.ref C4) = some false)
    (yj3m5 : PySem.W.subIn K (.ref C3) (.ref C5) = some false)
    (yj3m6 : PySem.W.subIn K (.ref C3) (.ref C6) = some false)
    (yj3m7 : PySem.W.subIn K (.ref C3) (.ref C7) = some false)
    (yj3m8 : PySem.W.subIn K (.ref C3) (.ref C8) = some false)
    (yj3m9 : PySem.W.subIn K (.ref C3) (.ref C9) = some false)
    (yj3m10 : PySem.W.subIn K (.ref C3) (.ref C10) = some false)
    (yj3m11 : PySem.W.subIn K (.ref C3) (.ref C11) = some false)
    (yj3m12 : PySem.W.subIn K (.ref C3) (.ref C12) = some false)
    (yj3m13 : PySem.W.subIn K (.ref C3) (.ref C13) = some false)
    (yj3v : PySem.W.subIn K (.ref C3) (.type "ValueError") = some true) (yj3K : PySem.W.subIn K (.ref C3) (.ref aK) = some true)
    (ej91 : PySem.W.findIn K (.ref C9) "__getattribute__" = some (some (.builtin "BaseException.__getattribute__"))) (ej92 : PySem.W.findIn K (.ref C9) "__getattr__" = some none) (ej93 : PySem.W.hasDictIn K C9 = true) (ej94 : PySem.W.findIn K (.ref C9) "__class__" = some (some (.builtin "object.__class__"))) (ej95 : PySem.W.mroIn K C9 (.type "object") = some true)
    (yj9m0 : PySem.W.subIn K (.ref C9) (.ref C0) = some false)
    (yj9m1 : PySem.W.subIn K (.ref C9) (.ref C1) = some false)
    (yj9m2 : PySem.W.subIn K (.ref C9) (.ref C2) = some false)
    (yj9m3 : PySem.W.subIn K (.ref C9) (.ref C3) = some false)
    (yj9m4 : PySem.W.subIn K (.ref C9) (.ref C4) = some false)
    (yj9m5 : PySem.W.subIn K (.ref C9) (.ref C5) = some false)
    (yj9m6 : PySem.W.subIn K (.ref C9) (.ref C6) = some false)
    (yj9m7 : PySem.W.subIn K (.ref C9) (.ref C7) = some false)
    (yj9m8 : PySem.W.subIn K (.ref C9) (.ref C8) = some false)
    (yj9m9 : PySem.W.subIn K (.ref C9) (.ref C9) = some true)
    (yj9m10 : PySem.W.subIn K (.ref C9) (.ref C10) = some false)
    (yj9m11 : PySem.W.subIn K (.ref C9) (.ref C11) = some false)
    (yj9m12 : PySem.W.subIn K (.ref C9) (.ref C12) = some false)
    (yj9m13 : PySem.W.subIn K (.ref C9) (.ref C13) = some false)
    (yj9v : PySem.W.subIn K (.ref C9) (.type "ValueError") = some true) (yj9K : PySem.W.subIn K (.ref C9) (.ref aK) = some true)
    (ej101 : PySem.W.findIn K (.ref C10) "__getattribute__" = some (some (.builtin "BaseException.__getattribute__"))) (ej102 : PySem.W.findIn K (.ref C10) "__getattr__" = some none) (ej103 : PySem.W.hasDictIn K C10 = true) (ej104 : PySem.W.findIn K (.ref C10) "__class__" = some (some (.builtin "object.__class__"))) (ej105 : PySem.W.mroIn K C10 (.type "object") = some true)
    (yj10m0 : PySem.W.subIn K (.ref C10) (.ref C0) = some false)
    (yj10m1 : PySem.W.subIn K (.ref C10) (.ref C1) = some false)
    (yj10m2 : PySem.W.subIn K (.ref C10) (.ref C2) = some false)
    (yj10m3 : PySem.W.subIn K (.ref C10) (.ref C3) = some false)
    (yj10m4 : PySem.W.subIn K (.ref C10) (.ref C4) = some false)
    (yj10m5 : PySem.W.subIn K (.ref C10) (.ref C5) = some false)
    (yj10m6 : PySem.W.subIn K (.ref C10) (.ref C6) = some false)
    (yj10m7 : PySem.W.subIn K (.ref C10) (.ref C7) = some false)
    (yj10m8 : PySem.W.subIn K (.ref C10) (.ref C8) = some false)
    (yj10m9 : PySem.W.subIn K (.ref C10) (.ref C9) = some false)
    (yj10m10 : PySem.W.subIn K (.ref C10) (.ref C10) = some true)
    (yj10m11 : PySem.W.subIn K (.ref C10) (.ref C11) = some false)
    (yj10m12 : PySem.W.subIn K (.ref C10) (.ref C12) = some false)
    (yj10m13 : PySem.W.subIn K (.ref C10) (.ref C13) = some false)
    (yj10v : PySem.W.subIn K (.ref C10) (.type "ValueError") = some true) (yj10K : PySem.W.subIn K (.ref C10) (.ref aK) = some true)
    (ej111 : PySem.W.findIn K (.ref C11) "__getattribute__" = some (some (.builtin "BaseException.__getattribute__"))) (ej112 : PySem.W.findIn K (.ref C11) "__getattr__" = some none) (ej113 : PySem.W.hasDictIn K C11 = true) (ej114 : PySem.W.findIn K (.ref C11) "__class__" = some (some (.builtin "object.__class__"))) (ej115 : PySem.W.mroIn K C11 (.type "object") = some true)
    (yj11m0 : PySem.W.subIn K (.ref C11) (.ref C0) = some false)
    (yj11m1 : PySem.W.subIn K (.ref C11) (.ref C1) = some false)
    (yj11m2 : PySem.W.subIn K (.ref C11) (.ref C2) = some false)
    (yj11m3 : PySem.W.subIn K (.ref C11) (.ref C3) = some false)
    (yj11m4 : PySem.W.subIn K (.ref C11) (.ref C4) = some false)
    (yj11m5 : PySem.W.subIn K (.ref C11) (.ref C5) = some false)
    (yj11m6 : PySem.W.subIn K (.ref C11) (.ref C6) = some false)
    (yj11m7 : PySem.W.subIn K (.ref C11) (.ref C7) = some false)
    (yj11m8 : PySem.W.subIn K (.ref C11) (.ref C8) = some false)
    (yj11m9 : PySem.W.subIn K (.ref C11) (.ref C9) = some false)
    (yj11m10 : PySem.W.subIn K (.ref C11) (.ref C10) = some false)
    (yj11m11 : PySem.W.subIn K (.ref C11) (.ref C11) = some true)
    (yj11m12 : PySem.W.subIn K (.ref C11) (.ref C12) = some false)
    (yj11m13 : PySem.W.subIn K (.ref C11) (.ref C13) = some false)
    (yj11v : PySem.W.subIn K (.ref C11) (.type "ValueError") = some true) (yj11K : PySem.W.subIn K (.ref C11) (.ref aK) = some true)
    (ej121 : PySem.W.findIn K (.ref C12) "__getattribute__" = some (some (.builtin "BaseException.__getattribute__"))) (ej122 : PySem.W.findIn K (.ref C12) "__getattr__" = some none) (ej123 : PySem.W.hasDictIn K C12 = true) (ej124 : PySem.W.findIn K (.ref C12) "__class__" = some (some (.builtin "object.__class__"))) (ej125 : PySem.W.mroIn K C12 (.type "object") = some true)
    (yj12m0 : PySem.W.subIn K (.ref C12) (.ref C0) = some false)
    (yj12m1 : PySem.W.subIn K (.ref C12) (.ref C1) = some false)
    (yj12m2 : PySem.W.subIn K (.ref C12) (.ref C2) = some false)
    (yj12m3 : PySem.W.subIn K (.ref C12) (.ref C3) = some false)
    (yj12m4 : PySem.W.subIn K (.ref C12) (.ref C4) = some false)
    (yj12m5 : PySem.W.subIn K (.ref C12) (.ref C5) = some false)
    (yj12m6 : PySem.W.subIn K (.ref C12) (.ref C6) = some false)
    (yj12m7 : PySem.W.subIn K (.ref C12) (.ref C7) = some false)
    (yj12m8 : PySem.W.subIn K (.ref C12) (.ref C8) = some false)
    (yj12m9 : PySem.W.subIn K (.ref C12) (.ref C9) = some false)
    (yj12m10 : PySem.W.subIn K (.ref C12) (.ref C10) = some false)
    (yj12m11 : PySem.W.subIn K (.ref C12) (.ref C11) = some false)
    (yj12m12 : PySem.W.subIn K (.ref C12) (.ref C12) = some true)
    (yj12m13 : PySem.W.subIn K (.ref C12) (.ref C13) = some false)
    (yj12v : PySem.W.subIn K (.ref C12) (.type "ValueError") = some true) (yj12K : PySem.W.subIn K (.ref C12) (.ref aK) = some true)
    (iC0 : PySem.W.isClsIn K C0 = true) (tC0 : PySem.W.typeIn K (.ref C0) = some (.type "type"))
    (iC1 : PySem.W.isClsIn K C1 = true) (tC1 : PySem.W.typeIn K (.ref C1) = some (.type "type"))
    (iC2 : PySem.W.isClsIn K C2 = true) (tC2 : PySem.W.typeIn K (.ref C2) = some (.type "type"))
    (iC3 : PySem.W.isClsIn K C3 = true) (tC3 : PySem.W.typeIn K (.ref C3) = some (.type "type"))
    (iC4 : PySem.W.isClsIn K C4 = true) (tC4 : PySem.W.typeIn K (.ref C4) = some (.type "type"))
    (iC5 : PySem.W.isClsIn K C5 = true) (tC5 : PySem.W.typeIn K (.ref C5) = some (.type "type"))
    (iC6 : PySem.W.isClsIn K C6 = true) (tC6 : PySem.W.typeIn K (.ref C6) = some (.type "type"))
    (iC7 : PySem.W.isClsIn K C7 = true) (tC7 : PySem.W.typeIn K (.ref C7) = some (.type "type"))
    (iC8 : PySem.W.isClsIn K C8 = true) (tC8 : PySem.W.typeIn K (.ref C8) = some (.type "type"))
    (iC9 : PySem.W.isClsIn K C9 = true) (tC9 : PySem.W.typeIn K (.ref C9) = some (.type "type"))
    (iC10 : PySem.W.isClsIn K C10 = true) (tC10 : PySem.W.typeIn K (.ref C10) = some (.type "type"))
    (iC11 : PySem.W.isClsIn K C11 = true) (tC11 : PySem.W.typeIn K (.ref C11) = some (.type "type"))
    (iC12 : PySem.W.isClsIn K C12 = true) (tC12 : PySem.W.typeIn K (.ref C12) = some (.type "type"))
    (iC13 : PySem.W.isClsIn K C13 = true) (tC13 : PySem.W.typeIn K (.ref C13) = some (.type "type"))
    (iK : PySem.W.isClsIn K aK = true) (tK : PySem.W.typeIn K (.ref aK) = some (.type "type")) (bK : PySem.W.subIn K (.ref aK) (.type "BaseException") = some true)
    (o1 : PySem.W.specialIn K (.builtin "object.__class__") "__get__" = some (some (.builtin "getset_descriptor.__get__"))) (o2 : PySem.W.takesIn K (.builtin "object.__class__") = some true)
    (gH : PySem.W.nsIn K mainGlobals "House" = some (some (.ref CH)))
    (ma_init : PySem.W.findIn K (.ref CH) "__init__" = some (some (.ref m_init))) (mi_init : PySem.W.isFn K (.ref m_init) = true) (ml_init : K.lookup m_init = some ⟨moc_init, mod_init, .func (PySem.W.fnOf "__init__" "House.__init__" (defArgs s_m_init) (defBody s_m_init) (defScope s_m_init) .none mkV_init mdc_init mpm_init man_init mcd_init mct_init), msl_init⟩) (mc_init : PySem.W.codeIn K mcd_init "House.__init__" = true) (mk_init : PySem.W.keepIn K (.ref m_init) = true)
    (ma_len : PySem.W.findIn K (.ref CH) "__len__" = some (some (.ref m_len))) (mi_len : PySem.W.isFn K (.ref m_len) = true) (ml_len : K.lookup m_len = some ⟨moc_len, mod_len, .func (PySem.W.fnOf "__len__" "House.__len__" (defArgs s_m_len) (defBody s_m_len) (defScope s_m_len) .none mkV_len mdc_len mpm_len man_len mcd_len mct_len), msl_len⟩) (mc_len : PySem.W.codeIn K mcd_len "House.__len__" = true) (mk_len : PySem.W.keepIn K (.ref m_len) = true)
    (ma_become : PySem.W.findIn K (.ref CH) "_become" = some (some (.ref m_become))) (mi_become : PySem.W.isFn K (.ref m_become) = true) (ml_become : K.lookup m_become = some ⟨moc_become, mod_become, .func (PySem.W.fnOf "_become" "House._become" (defArgs s_m_become) (defBody s_m_become) (defScope s_m_become) .none mkV_become mdc_become mpm_become man_become mcd_become mct_become), msl_become⟩) (mc_become : PySem.W.codeIn K mcd_become "House._become" = true) (mk_become : PySem.W.keepIn K (.ref m_become) = true)
    (ma_born : PySem.W.findIn K (.ref CH) "born" = some (some (.ref m_born))) (mi_born : PySem.W.isFn K (.ref m_born) = true) (ml_born : K.lookup m_born = some ⟨moc_born, mod_born, .func (PySem.W.fnOf "born" "House.born" (defArgs s_m_born) (defBody s_m_born) (defScope s_m_born) (.ref TDborn) mkV_born mdc_born mpm_born man_born mcd_born mct_born), msl_born⟩) (mc_born : PySem.W.codeIn K mcd_born "House.born" = true) (mk_born : PySem.W.keepIn K (.ref m_born) = true)
    (mt_born : K.lookup TDborn = some ⟨.type "tuple", modT_born, .seq #[.none, .none] mnT_born, mslT_born⟩)
    (ma_found : PySem.W.findIn K (.ref CH) "found" = some (some (.ref m_found))) (mi_found : PySem.W.isFn K (.ref m_found) = true) (ml_found : K.lookup m_found = some ⟨moc_found, mod_found, .func (PySem.W.fnOf "found" "House.found" (defArgs s_m_found) (defBody s_m_found) (defScope s_m_found) .none mkV_found mdc_found mpm_found man_found mcd_found mct_found), msl_found⟩) (mc_found : PySem.W.codeIn K mcd_found "House.found" = true) (mk_found : PySem.W.keepIn K (.ref m_found) = true)
    (ma_speak : PySem.W.findIn K (.ref CH) "speak" = some (some (.ref m_speak))) (mi_speak : PySem.W.isFn K (.ref m_speak) = true) (ml_speak : K.lookup m_speak = some ⟨moc_speak, mod_speak, .func (PySem.W.fnOf "speak" "House.speak" (defArgs s_m_speak) (defBody s_m_speak) (defScope s_m_speak) .none mkV_speak mdc_speak mpm_speak man_speak mcd_speak mct_speak), msl_speak⟩) (mc_speak : PySem.W.codeIn K mcd_speak "House.speak" = true) (mk_speak : PySem.W.keepIn K (.ref m_speak) = true)
    (ma_undo : PySem.W.findIn K (.ref CH) "undo" = some (some (.ref m_undo))) (mi_undo : PySem.W.isFn K (.ref m_undo) = true) (ml_undo : K.lookup m_undo = some ⟨moc_undo, mod_undo, .func (PySem.W.fnOf "undo" "House.undo" (defArgs s_m_undo) (defBody s_m_undo) (defScope s_m_undo) .none mkV_undo mdc_undo mpm_undo man_undo mcd_undo mct_undo), msl_undo⟩) (mc_undo : PySem.W.codeIn K mcd_undo "House.undo" = true) (mk_undo : PySem.W.keepIn K (.ref m_undo) = true)
    (ma_family : PySem.W.findIn K (.ref CH) "family" = some (some (.ref m_family))) (mi_family : PySem.W.isFn K (.ref m_family) = true) (ml_family : K.lookup m_family = some ⟨moc_family, mod_family, .func (PySem.W.fnOf "family" "House.family" (defArgs s_m_family) (defBody s_m_family) (defScope s_m_family) .none mkV_family mdc_family mpm_family man_family mcd_family mct_family), msl_family⟩) (mc_family : PySem.W.codeIn K mcd_family "House.family" = true) (mk_family : PySem.W.keepIn K (.ref m_family) = true)
    (ma_speech : PySem.W.findIn K (.ref CH) "speech" = some (some (.ref m_speech))) (mi_speech : PySem.W.isFn K (.ref m_speech) = true) (ml_speech : K.lookup m_speech = some ⟨moc_speech, mod_speech, .func (PySem.W.fnOf "speech" "House.speech" (defArgs s_m_speech) (defBody s_m_speech) (defScope s_m_speech) .none mkV_speech mdc_speech mpm_speech man_speech mcd_speech mct_speech), msl_speech⟩) (mc_speech : PySem.W.codeIn K mcd_speech "House.speech" = true) (mk_speech : PySem.W.keepIn K (.ref m_speech) = true)
    (ma_twin : PySem.W.findIn K (.ref CH) "twin" = some (some (.ref m_twin))) (mi_twin : PySem.W.isFn K (.ref m_twin) = true) (ml_twin : K.lookup m_twin = some ⟨moc_twin, mod_twin, .func (PySem.W.fnOf "twin" "House.twin" (defArgs s_m_twin) (defBody s_m_twin) (defScope s_m_twin) .none mkV_twin mdc_twin mpm_twin man_twin mcd_twin mct_twin), msl_twin⟩) (mc_twin : PySem.W.codeIn K mcd_twin "House.twin" = true) (mk_twin : PySem.W.keepIn K (.ref m_twin) = true)
    (cpg : PySem.W.plainGet K CH Str.empty = true) (chd : PySem.W.hasDictIn K CH = true) (cpo : PySem.W.plainOver K CH = true) (csa : PySem.W.findIn K (.ref CH) "__setattr__" = some (some (.builtin "object.__setattr__"))) (cmk : PySem.W.makesIn K CH = true) (ckc : PySem.W.keepIn K (.ref CH) = true)
    (cn_family : PySem.W.findIn K (.ref CH) "_family" = some none)
    (cn_speech : PySem.W.findIn K (.ref CH) "_speech" = some none)
    (cn_past : PySem.W.findIn K (.ref CH) "_past" = some none)
    : ∃ fd : FuncData, (∀ (s : Shared) (v : Value), BindsTo s fd ⟨[v], []⟩ [("_law_script", v)]) ∧ ∀ base : Heap, K.In base → base.Ns mainGlobals mg → FnOk l.prog w K mg base CX0 9 fa fd ["_law_script"] (spLaw K) := by
  have e := hfa.symm.trans (PySem.W.mg_of X G a20)
  cases e
  have D1 := df_mk (st := s_is_letters) (ps := ["thing", "most"]) X G a1 l1 c1 k1 fun _ _ _ _ _ _ us hl => match us, hl with | [_, _], _ => rfl
  have D2 := df_mk (st := s_is_name) (ps := ["thing"]) X G a2 l2 c2 k2 fun _ _ _ _ _ _ us hl => match us, hl with | [_], _ => rfl
  have D3 := df_mk (st := s_is_sex) (ps := ["thing"]) X G a3 l3 c3 k3 fun _ _ _ _ _ _ us hl => match us, hl with | [_], _ => rfl
  have D4 := df_mk (st := s_need_name) (ps := ["family", "thing"]) X G a4 l4 c4 k4 fun _ _ _ _ _ _ us hl => match us, hl with | [_, _], _ => rfl
  have D5 := df_mk (st := s_need_sex) (ps := ["thing"]) X G a5 l5 c5 k5 fun _ _ _ _ _ _ us hl => match us, hl with | [_], _ => rfl
  have D6 := df_mk (st := s_is_word) (ps := ["thing"]) X G a6 l6 c6 k6 fun _ _ _ _ _ _ us hl => match us, hl with | [_], _ => rfl
  have D7 := df_mk (st := s_is_number) (ps := ["thing", "many"]) X G a7 l7 c7 k7 fun _ _ _ _ _ _ us hl => match us, hl with | [_, _], _ => rfl
  have D8 := df_mk (st := s_is_stand) (ps := ["thing", "many"]) X G a8 l8 c8 k8 fun _ _ _ _ _ _ us hl => match us, hl with | [_, _], _ => rfl
  have D9 := df_mk (st := s_is_speech) (ps := ["thing"]) X G a9 l9 c9 k9 fun _ _ _ _ _ _ us hl => match us, hl with | [_], _ => rfl
  have D10 := df_mk (st := s_need_speech) (ps := ["thing"]) X G a10 l10 c10 k10 fun _ _ _ _ _ _ us hl => match us, hl with | [_], _ => rfl
  have D11 := df_mk (st := s_sex_among) (ps := ["persons", "thing"]) X G a11 l11 c11 k11 fun _ _ _ _ _ _ us hl => match us, hl with | [_, _], _ => rfl
  have D12 := df_mk (st := s_need_parent) (ps := ["persons", "thing", "sex"]) X G a12 l12 c12 k12 fun _ _ _ _ _ _ us hl => match us, hl with | [_, _, _], _ => rfl
  have D13 := df_mk (st := s_with_parent) (ps := ["family", "name", "parent"]) X G a13 l13 c13 k13 fun _ _ _ _ _ _ us hl => match us, hl with | [_, _, _], _ => rfl
  have D14 := df_mk (st := s_law_draw) (ps := ["_law_script", "_law_town", "_law_many"]) X G a14 l14 c14 k14 fun _ _ _ _ _ _ us hl => match us, hl with | [_, _, _], _ => rfl
  have D15 := df_mk (st := s_law_pick) (ps := ["_law_script", "_law_town", "_law_some"]) X G a15 l15 c15 k15 fun _ _ _ _ _ _ us hl => match us, hl with | [_, _, _], _ => rfl
  have D16 := df_mk (st := s_law_speech) (ps := ["_law_script", "_law_town", "_law_many"]) X G a16 l16 c16 k16 fun _ _ _ _ _ _ us hl => match us, hl with | [_, _, _], _ => rfl
  have D17 := df_mk (st := s_law_which) (ps := ["_law_e"]) X G a17 l17 c17 k17 fun _ _ _ _ _ _ us hl => match us, hl with | [_], _ => rfl
  have D18 := df_mk (st := s_law_do) (ps := ["_law_house", "_law_what", "_law_one", "_law_other", "_law_third", "_law_fourth"]) X G a18 l18 c18 k18 fun _ _ _ _ _ _ us hl => match us, hl with | [_, _, _, _, _, _], _ => rfl
  have D19 := df_mk (st := s_law_deed) (ps := ["_law_script", "_law_town", "_law_family_here"]) X G a19 l19 c19 k19 fun _ _ _ _ _ _ us hl => match us, hl with | [_, _, _], _ => rfl
  have M0 := PySem.W.mg_of X G g0
  have M1 := PySem.W.mg_of X G g1
  have M2 := PySem.W.mg_of X G g2
  have M3 := PySem.W.mg_of X G g3
  have M4 := PySem.W.mg_of X G g4
  have M5 := PySem.W.mg_of X G g5
  have M6 := PySem.W.mg_of X G g6
  have M7 := PySem.W.mg_of X G g7
  have M8 := PySem.W.mg_of X G g8
  have M9 := PySem.W.mg_of X G g9
  have M10 := PySem.W.mg_of X G g10
  have M11 := PySem.W.mg_of X G g11
  have M12 := PySem.W.mg_of X G g12
  have M13 := PySem.W.mg_of X G g13
  have MK := PySem.W.mg_of X G gK
  have N_ValueError := PySem.W.mg_none_of X G n_ValueError
  have N_all := PySem.W.mg_none_of X G n_all
  have N_bool := PySem.W.mg_none_of X G n_bool
  have N_dict := PySem.W.mg_none_of X G n_dict
  have N_int := PySem.W.mg_none_of X G n_int
  have N_isinstance := PySem.W.mg_none_of X G n_isinstance
  have N_len := PySem.W.mg_none_of X G n_len
  have N_list := PySem.W.mg_none_of X G n_list
  have N_range := PySem.W.mg_none_of X G n_range
  have N_str := PySem.W.mg_none_of X G n_str
  have N_tuple := PySem.W.mg_none_of X G n_tuple
  have E2 : ExT K mg "NoName" C2 := ⟨M2, xj2, pj2, bj2, tj2⟩
  have E3 : ExT K mg "NoSex" C3 := ⟨M3, xj3, pj3, bj3, tj3⟩
  have E5 : ExT K mg "NoSpeech" C5 := ⟨M5, xj5, pj5, bj5, tj5⟩
  have E9 : ExT K mg "NoParent" C9 := ⟨M9, xj9, pj9, bj9, tj9⟩
  have E10 : ExT K mg "Taken" C10 := ⟨M10, xj10, pj10, bj10, tj10⟩
  have E11 : ExT K mg "Full" C11 := ⟨M11, xj11, pj11, bj11, tj11⟩
  have E12 : ExT K mg "NoDeed" C12 := ⟨M12, xj12, pj12, bj12, tj12⟩
  have QSEXES : ∀ H, SqT K H ASEXES [.str "he", .str "she"] := fun H => .inr ⟨_, _, _, l_SEXES, rfl, rfl, (by show 2 ≤ sizeLine; decide), .cons ⟨_, rfl⟩ (.cons ⟨_, rfl⟩ .nil)⟩
  let TB : TxtB K mg := ⟨N_ValueError, N_all, N_bool, N_dict, N_int, N_isinstance, N_len, N_list, N_range, N_str, N_tuple, _, PySem.W.mg_of X G h_LETTERS, ASEXES, PySem.W.mg_of X G h_SEXES, QSEXES, _, PySem.W.mg_of X G h_MOST_LETTERS, _, PySem.W.mg_of X G h_MOST_PERSONS, _, PySem.W.mg_of X G h_STEPS, _, PySem.W.mg_of X G h_MOST_STANDS, _, PySem.W.mg_of X G h_MOST_WORD, C2, E2, C3, E3, C5, E5, C9, E9, C10, E10, C11, E11, C12, E12⟩
  let T0 : Txt K mg := ⟨TB, f1, _, D1, f2, _, D2, f3, _, D3, f4, _, D4, f5, _, D5, f6, _, D6, f7, _, D7, f8, _, D8, f9, _, D9, f10, _, D10, f11, _, D11, f12, _, D12, f13, _, D13, f14, _, D14, f15, _, D15, f16, _, D16, f17, _, D17, f18, _, D18, f19, _, D19⟩
  have MF_init := fun_mk (st := s_m_init) ml_init mc_init mk_init
  have mb_init := MF_init.binds (ps := ["self", "speech"]) fun _ _ _ _ _ _ us hl => match us, hl with | [_, _], _ => rfl
  have MF_len := fun_mk (st := s_m_len) ml_len mc_len mk_len
  have mb_len := MF_len.binds (ps := ["self"]) fun _ _ _ _ _ _ us hl => match us, hl with | [_], _ => rfl
  have MF_become := fun_mk (st := s_m_become) ml_become mc_become mk_become
  have mb_become := MF_become.binds (ps := ["self", "family", "speech"]) fun _ _ _ _ _ _ us hl => match us, hl with | [_, _, _], _ => rfl
  have MF_born : FunD K "born" "House.born" (defArgs s_m_born) (defBody s_m_born) (defScope s_m_born) [.non, .non] [] m_born (PySem.W.fnOf "born" "House.born" (defArgs s_m_born) (defBody s_m_born) (defScope s_m_born) (.ref TDborn) mkV_born mdc_born mpm_born man_born mcd_born mct_born) := ⟨⟨_, _, _, _, _, _, _, _, _, _, rfl, ml_born, mc_born, .inr ⟨List.cons_ne_nil _ _, TDborn, _, [.none, .none], _, rfl, mt_born, rfl, .cons rfl (.cons rfl (.nil))⟩, .inl rfl⟩, mk_born⟩
  have mb_born : Binds K (PySem.W.fnOf "born" "House.born" (defArgs s_m_born) (defBody s_m_born) (defScope s_m_born) (.ref TDborn) mkV_born mdc_born mpm_born man_born mcd_born mct_born) ["self", "name", "sex", "father", "mother"] [] := by
    obtain ⟨ds, r, b⟩ := MF_born.binds1 (ps := ["self", "name", "sex", "father", "mother"]) 5 2 (List.cons_ne_nil _ _) rfl (fun T kV doc pm an cdv ct us its l1 l2 => match us, its, l1, l2 with | [_, _, _, _, _], [_, _], _, _ => ⟨_, rfl, rfl⟩)
    have r2 : Vals [] ds := r
    cases r2
    exact b
  have MF_found := fun_mk (st := s_m_found) ml_found mc_found mk_found
  have mb_found := MF_found.binds (ps := ["self", "name", "parent"]) fun _ _ _ _ _ _ us hl => match us, hl with | [_, _, _], _ => rfl
  have MF_speak := fun_mk (st := s_m_speak) ml_speak mc_speak mk_speak
  have mb_speak := MF_speak.binds (ps := ["self", "speech"]) fun _ _ _ _ _ _ us hl => match us, hl with | [_, _], _ => rfl
  have MF_undo := fun_mk (st := s_m_undo) ml_undo mc_undo mk_undo
  have mb_undo := MF_undo.binds (ps := ["self"]) fun _ _ _ _ _ _ us hl => match us, hl with | [_], _ => rfl
  have MF_family := fun_mk (st := s_m_family) ml_family mc_family mk_family
  have mb_family := MF_family.binds (ps := ["self"]) fun _ _ _ _ _ _ us hl => match us, hl with | [_], _ => rfl
  have MF_speech := fun_mk (st := s_m_speech) ml_speech mc_speech mk_speech
  have mb_speech := MF_speech.binds (ps := ["self"]) fun _ _ _ _ _ _ us hl => match us, hl with | [_], _ => rfl
  have MF_twin := fun_mk (st := s_m_twin) ml_twin mc_twin mk_twin
  have mb_twin := MF_twin.binds (ps := ["self"]) fun _ _ _ _ _ _ us hl => match us, hl with | [_], _ => rfl
  let T : TxtH K mg := ⟨T0, CH, PySem.W.mg_of X G gH, ⟨cpg, chd, cpo, csa⟩, cn_family, cn_speech, cn_past, m_init, _, MF_init, mb_init, ⟨ma_init, mi_init, mk_init⟩, m_len, _, MF_len, mb_len, ⟨ma_len, mi_len, mk_len⟩, m_become, _, MF_become, mb_become, ⟨ma_become, mi_become, mk_become⟩, m_born, _, MF_born, mb_born, ⟨ma_born, mi_born, mk_born⟩, m_found, _, MF_found, mb_found, ⟨ma_found, mi_found, mk_found⟩, m_speak, _, MF_speak, mb_speak, ⟨ma_speak, mi_speak, mk_speak⟩, m_undo, _, MF_undo, mb_undo, ⟨ma_undo, mi_undo, mk_undo⟩, m_family, _, MF_family, mb_family, ⟨ma_family, mi_family, mk_family⟩, m_speech, _, MF_speech, mb_speech, ⟨ma_speech, mi_speech, mk_speech⟩, m_twin, _, MF_twin, mb_twin, ⟨ma_twin, mi_twin, mk_twin⟩, ⟨cmk, ma_init, mi_init, ckc⟩⟩
  let CC : K17.Cls K mg := ⟨C0, C1, C2, C3, C4, C5, C6, C7, C8, C9, C10, C11, C12, C13, M0, M1, M2, M3, M4, M5, M6, M7, M8, M9, M10, M11, M12, M13, N_ValueError⟩
  have J2 : IsJ K mg CC C2 2 := ⟨⟨ej21, ej22, bj2, ej23, ej24, o1, o2, ej25⟩, by decide, kit_no iC0 tC0 yj2m2 yj2m0, kit_no iC1 tC1 yj2m2 yj2m1, kit_self, kit_no iC3 tC3 yj2m2 yj2m3, kit_no iC4 tC4 yj2m2 yj2m4, kit_no iC5 tC5 yj2m2 yj2m5, kit_no iC6 tC6 yj2m2 yj2m6, kit_no iC7 tC7 yj2m2 yj2m7, kit_no iC8 tC8 yj2m2 yj2m8, kit_no iC9 tC9 yj2m2 yj2m9, kit_no iC10 tC10 yj2m2 yj2m10, kit_no iC11 tC11 yj2m2 yj2m11, kit_no iC12 tC12 yj2m2 yj2m12, kit_no iC13 tC13 yj2m2 yj2m13, kit_type (by decide +kernel) yj2v⟩
  have mj2 := exm_mk bK iK tK yj2K
  have J3 : IsJ K mg CC C3 3 := ⟨⟨ej31, ej32, bj3, ej33, ej34, o1, o2, ej35⟩, by decide, kit_no iC0 tC0 yj3m3 yj3m0, kit_no iC1 tC1 yj3m3 yj3m1, kit_no iC2 tC2 yj3m3 yj3m2, kit_self, kit_no iC4 tC4 yj3m3 yj3m4, kit_no iC5 tC5 yj3m3 yj3m5, kit_no iC6 tC6 yj3m3 yj3m6, kit_no iC7 tC7 yj3m3 yj3m7, kit_no iC8 tC8 yj3m3 yj3m8, kit_no iC9 tC9 yj3m3 yj3m9, kit_no iC10 tC10 yj3m3 yj3m10, kit_no iC11 tC11 yj3m3 yj3m11, kit_no iC12 tC12 yj3m3 yj3m12, kit_no iC13 tC13 yj3m3 yj3m13, kit_type (by decide +kernel) yj3v⟩
  have mj3 := exm_mk bK iK tK yj3K
  have J9 : IsJ K mg CC C9 9 := ⟨⟨ej91, ej92, bj9, ej93, ej94, o1, o2, ej95⟩, by decide, kit_no iC0 tC0 yj9m9 yj9m0, kit_no iC1 tC1 yj9m9 yj9m1, kit_no iC2 tC2 yj9m9 yj9m2, kit_no iC3 tC3 yj9m9 yj9m3, kit_no iC4 tC4 yj9m9 yj9m4, kit_no iC5 tC5 yj9m9 yj9m5, kit_no iC6 tC6 yj9m9 yj9m6, kit_no iC7 tC7 yj9m9 yj9m7, kit_no iC8 tC8 yj9m9 yj9m8, kit_self, kit_no iC10 tC10 yj9m9 yj9m10, kit_no iC11 tC11 yj9m9 yj9m11, kit_no iC12 tC12 yj9m9 yj9m12, kit_no iC13 tC13 yj9m9 yj9m13, kit_type (by decide +kernel) yj9v⟩
  have mj9 := exm_mk bK iK tK yj9K
  have J10 : IsJ K mg CC C10 10 := ⟨⟨ej101, ej102, bj10, ej103, ej104, o1, o2, ej105⟩, by decide, kit_no iC0 tC0 yj10m10 yj10m0, kit_no iC1 tC1 yj10m10 yj10m1, kit_no iC2 tC2 yj10m10 yj10m2, kit_no iC3 tC3 yj10m10 yj10m3, kit_no iC4 tC4 yj10m10 yj10m4, kit_no iC5 tC5 yj10m10 yj10m5, kit_no iC6 tC6 yj10m10 yj10m6, kit_no iC7 tC7 yj10m10 yj10m7, kit_no iC8 tC8 yj10m10 yj10m8, kit_no iC9 tC9 yj10m10 yj10m9, kit_self, kit_no iC11 tC11 yj10m10 yj10m11, kit_no iC12 tC12 yj10m10 yj10m12, kit_no iC13 tC13 yj10m10 yj10m13, kit_type (by decide +kernel) yj10v⟩
  have mj10 := exm_mk bK iK tK yj10K
  have J11 : IsJ K mg CC C11 11 := ⟨⟨ej111, ej112, bj11, ej113, ej114, o1, o2, ej115⟩, by decide, kit_no iC0 tC0 yj11m11 yj11m0, kit_no iC1 tC1 yj11m11 yj11m1, kit_no iC2 tC2 yj11m11 yj11m2, kit_no iC3 tC3 yj11m11 yj11m3, kit_no iC4 tC4 yj11m11 yj11m4, kit_no iC5 tC5 yj11m11 yj11m5, kit_no iC6 tC6 yj11m11 yj11m6, kit_no iC7 tC7 yj11m11 yj11m7, kit_no iC8 tC8 yj11m11 yj11m8, kit_no iC9 tC9 yj11m11 yj11m9, kit_no iC10 tC10 yj11m11 yj11m10, kit_self, kit_no iC12 tC12 yj11m11 yj11m12, kit_no iC13 tC13 yj11m11 yj11m13, kit_type (by decide +kernel) yj11v⟩
  have mj11 := exm_mk bK iK tK yj11K
  have J12 : IsJ K mg CC C12 12 := ⟨⟨ej121, ej122, bj12, ej123, ej124, o1, o2, ej125⟩, by decide, kit_no iC0 tC0 yj12m12 yj12m0, kit_no iC1 tC1 yj12m12 yj12m1, kit_no iC2 tC2 yj12m12 yj12m2, kit_no iC3 tC3 yj12m12 yj12m3, kit_no iC4 tC4 yj12m12 yj12m4, kit_no iC5 tC5 yj12m12 yj12m5, kit_no iC6 tC6 yj12m12 yj12m6, kit_no iC7 tC7 yj12m12 yj12m7, kit_no iC8 tC8 yj12m12 yj12m8, kit_no iC9 tC9 yj12m12 yj12m9, kit_no iC10 tC10 yj12m12 yj12m10, kit_no iC11 tC11 yj12m12 yj12m11, kit_self, kit_no iC13 tC13 yj12m12 yj12m13, kit_type (by decide +kernel) yj12v⟩
  have mj12 := exm_mk bK iK tK yj12K
  have js : ∀ j, Told j → IsJ K mg CC (exc T j) j ∧ PySem.W.exmOne K (.ref (exc T j)) (.ref aK) = some true := by
    intro j h
    rcases h with rfl | rfl | rfl | rfl | rfl | rfl
    · exact ⟨J2, mj2⟩
    · exact ⟨J3, mj3⟩
    · exact ⟨J9, mj9⟩
    · exact ⟨J10, mj10⟩
    · exact ⟨J11, mj11⟩
    · exact ⟨J12, mj12⟩
  have F := fun_mk (st := s_law) l20 c20 k20
  refine ⟨_, fun s v => .of_eq rfl, fun base _ _ => ok_law (aK := aK) T CC ⟨js, MK⟩ F⟩
theorem walk {l : PySem.W.OpenLaw} {q : Program} {loose : List Str} {XP : (Str → Option Value) → Heap → Prop} {YP : World → Heap → Prop} {d : DefRec} {K : Params → PySem.W.Frag} (hn : l.most = some 63) (hdf : d.params.defaults = [])
    (hY : ∀ (w : World) (h : Heap), YP w h → (K w.params).In h)
    (F : ∀ (w : World) (mg : Str → Option Value) (fa : Addr) (h : Heap), (K w.params).In h → h.Ns mainGlobals mg → mg d.name = some (.ref fa) →
      ∃ fd : FuncData, (∀ (s : Shared) (u : Value), BindsTo s fd ⟨[u], []⟩ [("_law_script", u)]) ∧ ∀ base : Heap, (K w.params).In base → base.Ns mainGlobals mg → FnOk l.prog w (K w.params) mg base CX0 9 fa fd ["_law_script"] (spLaw (K w.params))) :
    PySem.W.WalkO q loose XP YP l.row.toRowW d [] (fun f vs => PySem.call f vs) :=
  L2.walk_of (n := 63) (k := 9) (x := "_law_script") (CX := fun _ => CX0) (sp := fun w => spLaw (K w.params)) hn (by decide) hdf ⟨rfl, by decide, by decide⟩ hY F (fun _ _ a ns hl _ hS => ⟨a, ns, rfl, hS, hl, fun _ => rfl⟩) fun _ _ _ _ _ z => z
end K17

set_option maxHeartbeats 4000000
open PySem PySem.W PyProof.Rows
set_option maxRecDepth 100000 in
set_option maxHeartbeats 0 in
theorem PySem.Challenge.cw_kincalls_k17_whole_twins_and_undone_holds : PySem.Challenge.rw_kincalls_k17_whole_twins_and_undone.Holds := by
  w_on; o_law; k_head; (case hw => w_witness2)
  k_fill
  refine K17.walk (l := PySem.Challenge.rw_kincalls_k17_whole_twins_and_undone) rfl rfl (fun w h Y => PySem.W.kIn_of Y) ?F
  case F =>
    intro w mg fa h KX G hmg
    refine' K17.all_mk KX G hmg ?kinfact_a1 ?kinfact_l1 ?kinfact_c1 ?kinfact_k1 ?kinfact_a2 ?kinfact_l2 ?kinfact_c2 ?kinfact_k2 ?kinfact_a3 ?kinfact_l3 ?kinfact_c3 ?kinfact_k3 ?kinfact_a4 ?kinfact_l4 ?kinfact_c4 ?kinfact_k4 ?kinfact_a5 ?kinfact_l5 ?kinfact_c5 ?kinfact_k5 ?kinfact_a6 ?kinfact_l6 ?kinfact_c6 ?kinfact_k6 ?kinfact_a7 ?kinfact_l7 ?kinfact_c7 ?kinfact_k7 ?kinfact_a8 ?kinfact_l8 ?kinfact_c8 ?kinfact_k8 ?kinfact_a9 ?kinfact_l9 ?kinfact_c9 ?kinfact_k9 ?kinfact_a10 ?kinfact_l10 ?kinfact_c10 ?kinfact_k10 ?kinfact_a11 ?kinfact_l11 ?kinfact_c11 ?kinfact_k11 ?kinfact_a12 ?kinfact_l12 ?kinfact_c12 ?kinfact_k12 ?kinfact_a13 ?kinfact_l13 ?kinfact_c13 ?kinfact_k13 ?kinfact_a14 ?kinfact_l14 ?kinfact_c14 ?kinfact_k14 ?kinfact_a15 ?kinfact_l15 ?kinfact_c15 ?kinfact_k15 ?kinfact_a16 ?kinfact_l16 ?kinfact_c16 ?kinfact_k16 ?kinfact_a17 ?kinfact_l17 ?kinfact_c17 ?kinfact_k17 ?kinfact_a18 ?kinfact_l18 ?kinfact_c18 ?kinfact_k18 ?kinfact_a19 ?kinfact_l19 ?kinfact_c19 ?kinfact_k19 ?kinfact_a20 ?kinfact_l20 ?kinfact_c20 ?kinfact_k20 ?kinfact_g0 ?kinfact_g1 ?kinfact_g2 ?kinfact_g3 ?kinfact_g4 ?kinfact_g5 ?kinfact_g6 ?kinfact_g7 ?kinfact_g8 ?kinfact_g9 ?kinfact_g10 ?kinfact_g11 ?kinfact_g12 ?kinfact_g13 ?kinfact_gK ?kinfact_n_ValueError ?kinfact_n_all ?kinfact_n_bool ?kinfact_n_dict ?kinfact_n_int ?kinfact_n_isinstance ?kinfact_n_len ?kinfact_n_list ?kinfact_n_range ?kinfact_n_str ?kinfact_n_tuple ?kinfact_h_LETTERS ?kinfact_h_SEXES ?kinfact_l_SEXES ?kinfact_h_MOST_LETTERS ?kinfact_h_MOST_PERSONS ?kinfact_h_STEPS ?kinfact_h_MOST_STANDS ?kinfact_h_MOST_WORD ?kinfact_xj2 ?kinfact_pj2 ?kinfact_bj2 ?kinfact_tj2 ?kinfact_xj3 ?kinfact_pj3 ?kinfact_bj3 ?kinfact_tj3 ?kinfact_xj5 ?kinfact_pj5 ?kinfact_bj5 ?kinfact_tj5 ?kinfact_xj9 ?kinfact_pj9 ?kinfact_bj9 ?kinfact_tj9 ?kinfact_xj10 ?kinfact_pj10 ?kinfact_bj10 ?kinfact_tj10 ?kinfact_xj11 ?kinfact_pj11 ?kinfact_bj11 ?kinfact_tj11 ?kinfact_xj12 ?kinfact_pj12 ?kinfact_bj12 ?kinfact_tj12 ?kinfact_ej21 ?kinfact_ej22 ?kinfact_ej23 ?kinfact_ej24 ?kinfact_ej25 ?kinfact_yj2m0 ?kinfact_yj2m1 ?kinfact_yj2m2 ?kinfact_yj2m3 ?kinfact_yj2m4 ?kinfact_yj2m5 ?kinfact_yj2m6 ?kinfact_yj2m7 ?kinfact_yj2m8 ?kinfact_yj2m9 ?kinfact_yj2m10 ?kinfact_yj2m11 ?kinfact_yj2m12 ?kinfact_yj2m13 ?kinfact_yj2v ?kinfact_yj2K ?kinfact_ej31 ?kinfact_ej32 ?kinfact_ej33 ?kinfact_ej34 ?kinfact_ej35 ?kinfact_yj3m0 ?kinfact_yj3m1 ?kinfact_yj3m2 ?kinfact_yj3m3 ?kinfact_yj3m4 ?kinfact_yj3m5 ?kinfact_yj3m6 ?kinfact_yj3m7 ?kinfact_yj3m8 ?kinfact_yj3m9 ?kinfact_yj3m10 ?kinfact_yj3m11 ?kinfact_yj3m12 ?kinfact_yj3m13 ?kinfact_yj3v ?kinfact_yj3K ?kinfact_ej91 ?kinfact_ej92 ?kinfact_ej93 ?kinfact_ej94 ?kinfact_ej95 ?kinfact_yj9m0 ?kinfact_yj9m1 ?kinfact_yj9m2 ?kinfact_yj9m3 ?kinfact_yj9m4 ?kinfact_yj9m5 ?kinfact_yj9m6 ?kinfact_yj9m7 ?kinfact_yj9m8 ?kinfact_yj9m9 ?kinfact_yj9m10 ?kinfact_yj9m11 ?kinfact_yj9m12 ?kinfact_yj9m13 ?kinfact_yj9v ?kinfact_yj9K ?kinfact_ej101 ?kinfact_ej102 ?kinfact_ej103 ?kinfact_ej104 ?kinfact_ej105 ?kinfact_yj10m0 ?kinfact_yj10m1 ?kinfact_yj10m2 ?kinfact_yj10m3 ?kinfact_yj10m4 ?kinfact_yj10m5 ?kinfact_yj10m6 ?kinfact_yj10m7 ?kinfact_yj10m8 ?kinfact_yj10m9 ?kinfact_yj10m10 ?kinfact_yj10m11 ?kinfact_yj10m12 ?kinfact_yj10m13 ?kinfact_yj10v ?kinfact_yj10K ?kinfact_ej111 ?kinfact_ej112 ?kinfact_ej113 ?kinfact_ej114 ?kinfact_ej115 ?kinfact_yj11m0 ?kinfact_yj11m1 ?kinfact_yj11m2 ?kinfact_yj11m3 ?kinfact_yj11m4 ?kinfact_yj11m5 ?kinfact_yj11m6 ?kinfact_yj11m7 ?kinfact_yj11m8 ?kinfact_yj11m9 ?kinfact_yj11m10 ?kinfact_yj11m11 ?kinfact_yj11m12 ?kinfact_yj11m13 ?kinfact_yj11v ?kinfact_yj11K ?kinfact_ej121 ?kinfact_ej122 ?kinfact_ej123 ?kinfact_ej124 ?kinfact_ej125 ?kinfact_yj12m0 ?kinfact_yj12m1 ?kinfact_yj12m2 ?kinfact_yj12m3 ?kinfact_yj12m4 ?kinfact_yj12m5 ?kinfact_yj12m6 ?kinfact_yj12m7 ?kinfact_yj12m8 ?kinfact_yj12m9 ?kinfact_yj12m10 ?kinfact_yj12m11 ?kinfact_yj12m12 ?kinfact_yj12m13 ?kinfact_yj12v ?kinfact_yj12K ?kinfact_iC0 ?kinfact_tC0 ?kinfact_iC1 ?kinfact_tC1 ?kinfact_iC2 ?kinfact_tC2 ?kinfact_iC3 ?kinfact_tC3 ?kinfact_iC4 ?kinfact_tC4 ?kinfact_iC5 ?kinfact_tC5 ?kinfact_iC6 ?kinfact_tC6 ?kinfact_iC7 ?kinfact_tC7 ?kinfact_iC8 ?kinfact_tC8 ?kinfact_iC9 ?kinfact_tC9 ?kinfact_iC10 ?kinfact_tC10 ?kinfact_iC11 ?kinfact_tC11 ?kinfact_iC12 ?kinfact_tC12 ?kinfact_iC13 ?kinfact_tC13 ?kinfact_iK ?kinfact_tK ?kinfact_bK ?kinfact_o1 ?kinfact_o2 ?kinfact_gH ?kinfact_ma_init ?kinfact_mi_init ?kinfact_ml_init ?kinfact_mc_init ?kinfact_mk_init ?kinfact_ma_len ?kinfact_mi_len ?kinfact_ml_len ?kinfact_mc_len ?kinfact_mk_len ?kinfact_ma_become ?kinfact_mi_become ?kinfact_ml_become ?kinfact_mc_become ?kinfact_mk_become ?kinfact_ma_born ?kinfact_mi_born ?kinfact_ml_born ?kinfact_mc_born ?kinfact_mk_born ?kinfact_mt_born ?kinfact_ma_found ?kinfact_mi_found ?kinfact_ml_found ?kinfact_mc_found ?kinfact_mk_found ?kinfact_ma_speak ?kinfact_mi_speak ?kinfact_ml_speak ?kinfact_mc_speak ?kinfact_mk_speak ?kinfact_ma_undo ?kinfact_mi_undo ?kinfact_ml_undo ?kinfact_mc_undo ?kinfact_mk_undo ?kinfact_ma_family ?kinfact_mi_family ?kinfact_ml_family ?kinfact_mc_family ?kinfact_mk_family ?kinfact_ma_speech ?kinfact_mi_speech ?kinfact_ml_speech ?kinfact_mc_speech ?kinfact_mk_speech ?kinfact_ma_twin ?kinfact_mi_twin ?kinfact_ml_twin ?kinfact_mc_twin ?kinfact_mk_twin ?kinfact_cpg ?kinfact_chd ?kinfact_cpo ?kinfact_csa ?kinfact_cmk ?kinfact_ckc ?kinfact_cn_family ?kinfact_cn_speech ?kinfact_cn_past
    (case kinfact_a1 => k_is); (case kinfact_l1 => k_is); (case kinfact_c1 => k_is); (case kinfact_k1 => k_is)
    (case kinfact_a2 => k_is); (case kinfact_l2 => k_is); (case kinfact_c2 => k_is); (case kinfact_k2 => k_is)
    (case kinfact_a3 => k_is); (case kinfact_l3 => k_is); (case kinfact_c3 => k_is); (case kinfact_k3 => k_is)
    (case kinfact_a4 => k_is); (case kinfact_l4 => k_is); (case kinfact_c4 => k_is); (case kinfact_k4 => k_is)
    (case kinfact_a5 => k_is); (case kinfact_l5 => k_is); (case kinfact_c5 => k_is); (case kinfact_k5 => k_is)
    (case kinfact_a6 => k_is); (case kinfact_l6 => k_is); (case kinfact_c6 => k_is); (case kinfact_k6 => k_is)
    (case kinfact_a7 => k_is); (case kinfact_l7 => k_is); (case kinfact_c7 => k_is); (case kinfact_k7 => k_is)
    (case kinfact_a8 => k_is); (case kinfact_l8 => k_is); (case kinfact_c8 => k_is); (case kinfact_k8 => k_is)
    (case kinfact_a9 => k_is); (case kinfact_l9 => k_is); (case kinfact_c9 => k_is); (case kinfact_k9 => k_is)
    (case kinfact_a10 => k_is); (case kinfact_l10 => k_is); (case kinfact_c10 => k_is); (case kinfact_k10 => k_is)
    (case kinfact_a11 => k_is); (case kinfact_l11 => k_is); (case kinfact_c11 => k_is); (case kinfact_k11 => k_is)
    (case kinfact_a12 => k_is); (case kinfact_l12 => k_is); (case kinfact_c12 => k_is); (case kinfact_k12 => k_is)
    (case kinfact_a13 => k_is); (case kinfact_l13 => k_is); (case kinfact_c13 => k_is); (case kinfact_k13 => k_is)
    (case kinfact_a14 => k_is); (case kinfact_l14 => k_is); (case kinfact_c14 => k_is); (case kinfact_k14 => k_is)
    (case kinfact_a15 => k_is); (case kinfact_l15 => k_is); (case kinfact_c15 => k_is); (case kinfact_k15 => k_is)
    (case kinfact_a16 => k_is); (case kinfact_l16 => k_is); (case kinfact_c16 => k_is); (case kinfact_k16 => k_is)
    (case kinfact_a17 => k_is); (case kinfact_l17 => k_is); (case kinfact_c17 => k_is); (case kinfact_k17 => k_is)
    (case kinfact_a18 => k_is); (case kinfact_l18 => k_is); (case kinfact_c18 => k_is); (case kinfact_k18 => k_is)
    (case kinfact_a19 => k_is); (case kinfact_l19 => k_is); (case kinfact_c19 => k_is); (case kinfact_k19 => k_is)
    (case kinfact_a20 => k_is); (case kinfact_l20 => k_is); (case kinfact_c20 => k_is); (case kinfact_k20 => k_is)
    (case kinfact_g0 => k_is); (case kinfact_g1 => k_is); (case kinfact_g2 => k_is); (case kinfact_g3 => k_is)
    (case kinfact_g4 => k_is); (case kinfact_g5 => k_is); (case kinfact_g6 => k_is); (case kinfact_g7 => k_is)
    (case kinfact_g8 => k_is); (case kinfact_g9 => k_is); (case kinfact_g10 => k_is); (case kinfact_g11 => k_is)
    (case kinfact_g12 => k_is); (case kinfact_g13 => k_is); (case kinfact_gK => k_is); (case kinfact_n_ValueError => k_is)
    (case kinfact_n_all => k_is); (case kinfact_n_bool => k_is); (case kinfact_n_dict => k_is); (case kinfact_n_int => k_is)
    (case kinfact_n_isinstance => k_is); (case kinfact_n_len => k_is); (case kinfact_n_list => k_is); (case kinfact_n_range => k_is)
    (case kinfact_n_str => k_is); (case kinfact_n_tuple => k_is); (case kinfact_h_LETTERS => k_is); (case kinfact_h_SEXES => k_is)
    (case kinfact_l_SEXES => k_is); (case kinfact_h_MOST_LETTERS => k_is); (case kinfact_h_MOST_PERSONS => k_is); (case kinfact_h_STEPS => k_is)
    (case kinfact_h_MOST_STANDS => k_is); (case kinfact_h_MOST_WORD => k_is); (case kinfact_xj2 => k_exc); (case kinfact_pj2 => k_is)
    (case kinfact_bj2 => k_is); (case kinfact_tj2 => k_is); (case kinfact_xj3 => k_exc); (case kinfact_pj3 => k_is)
    (case kinfact_bj3 => k_is); (case kinfact_tj3 => k_is); (case kinfact_xj5 => k_exc); (case kinfact_pj5 => k_is)
    (case kinfact_bj5 => k_is); (case kinfact_tj5 => k_is); (case kinfact_xj9 => k_exc); (case kinfact_pj9 => k_is)
    (case kinfact_bj9 => k_is); (case kinfact_tj9 => k_is); (case kinfact_xj10 => k_exc); (case kinfact_pj10 => k_is)
    (case kinfact_bj10 => k_is); (case kinfact_tj10 => k_is); (case kinfact_xj11 => k_exc); (case kinfact_pj11 => k_is)
    (case kinfact_bj11 => k_is); (case kinfact_tj11 => k_is); (case kinfact_xj12 => k_exc); (case kinfact_pj12 => k_is)
    (case kinfact_bj12 => k_is); (case kinfact_tj12 => k_is); (case kinfact_ej21 => k_is); (case kinfact_ej22 => k_is)
    (case kinfact_ej23 => k_is); (case kinfact_ej24 => k_is); (case kinfact_ej25 => k_is); (case kinfact_yj2m0 => k_is)
    (case kinfact_yj2m1 => k_is); (case kinfact_yj2m2 => first | k_is | rfl); (case kinfact_yj2m3 => k_is); (case kinfact_yj2m4 => k_is)
    (case kinfact_yj2m5 => k_is); (case kinfact_yj2m6 => k_is); (case kinfact_yj2m7 => k_is); (case kinfact_yj2m8 => k_is)
    (case kinfact_yj2m9 => k_is); (case kinfact_yj2m10 => k_is); (case kinfact_yj2m11 => k_is); (case kinfact_yj2m12 => k_is)
    (case kinfact_yj2m13 => k_is); (case kinfact_yj2v => k_is); (case kinfact_yj2K => k_is); (case kinfact_ej31 => k_is)
    (case kinfact_ej32 => k_is); (case kinfact_ej33 => k_is); (case kinfact_ej34 => k_is); (case kinfact_ej35 => k_is)
    (case kinfact_yj3m0 => k_is); (case kinfact_yj3m1 => k_is); (case kinfact_yj3m2 => k_is); (case kinfact_yj3m3 => first | k_is | rfl)
    (case kinfact_yj3m4 => k_is); (case kinfact_yj3m5 => k_is); (case kinfact_yj3m6 => k_is); (case kinfact_yj3m7 => k_is)
    (case kinfact_yj3m8 => k_is); (case kinfact_yj3m9 => k_is); (case kinfact_yj3m10 => k_is); (case kinfact_yj3m11 => k_is)
    (case kinfact_yj3m12 => k_is); (case kinfact_yj3m13 => k_is); (case kinfact_yj3v => k_is); (case kinfact_yj3K => k_is)
    (case kinfact_ej91 => k_is); (case kinfact_ej92 => k_is); (case kinfact_ej93 => k_is); (case kinfact_ej94 => k_is)
    (case kinfact_ej95 => k_is); (case kinfact_yj9m0 => k_is); (case kinfact_yj9m1 => k_is); (case kinfact_yj9m2 => k_is)
    (case kinfact_yj9m3 => k_is); (case kinfact_yj9m4 => k_is); (case kinfact_yj9m5 => k_is); (case kinfact_yj9m6 => k_is)
    (case kinfact_yj9m7 => k_is); (case kinfact_yj9m8 => k_is); (case kinfact_yj9m9 => first | k_is | rfl); (case kinfact_yj9m10 => k_is)
    (case kinfact_yj9m11 => k_is); (case kinfact_yj9m12 => k_is); (case kinfact_yj9m13 => k_is); (case kinfact_yj9v => k_is)
    (case kinfact_yj9K => k_is); (case kinfact_ej101 => k_is); (case kinfact_ej102 => k_is); (case kinfact_ej103 => k_is)
    (case kinfact_ej104 => k_is); (case kinfact_ej105 => k_is); (case kinfact_yj10m0 => k_is); (case kinfact_yj10m1 => k_is)
    (case kinfact_yj10m2 => k_is); (case kinfact_yj10m3 => k_is); (case kinfact_yj10m4 => k_is); (case kinfact_yj10m5 => k_is)
    (case kinfact_yj10m6 => k_is); (case kinfact_yj10m7 => k_is); (case kinfact_yj10m8 => k_is); (case kinfact_yj10m9 => k_is)
    (case kinfact_yj10m10 => first | k_is | rfl); (case kinfact_yj10m11 => k_is); (case kinfact_yj10m12 => k_is); (case kinfact_yj10m13 => k_is)
    (case kinfact_yj10v => k_is); (case kinfact_yj10K => k_is); (case kinfact_ej111 => k_is); (case kinfact_ej112 => k_is)
    (case kinfact_ej113 => k_is); (case kinfact_ej114 => k_is); (case kinfact_ej115 => k_is); (case kinfact_yj11m0 => k_is)
    (case kinfact_yj11m1 => k_is); (case kinfact_yj11m2 => k_is); (case kinfact_yj11m3 => k_is); (case kinfact_yj11m4 => k_is)
    (case kinfact_yj11m5 => k_is); (case kinfact_yj11m6 => k_is); (case kinfact_yj11m7 => k_is); (case kinfact_yj11m8 => k_is)
    (case kinfact_yj11m9 => k_is); (case kinfact_yj11m10 => k_is); (case kinfact_yj11m11 => first | k_is | rfl); (case kinfact_yj11m12 => k_is)
    (case kinfact_yj11m13 => k_is); (case kinfact_yj11v => k_is); (case kinfact_yj11K => k_is); (case kinfact_ej121 => k_is)
    (case kinfact_ej122 => k_is); (case kinfact_ej123 => k_is); (case kinfact_ej124 => k_is); (case kinfact_ej125 => k_is)
    (case kinfact_yj12m0 => k_is); (case kinfact_yj12m1 => k_is); (case kinfact_yj12m2 => k_is); (case kinfact_yj12m3 => k_is)
    (case kinfact_yj12m4 => k_is); (case kinfact_yj12m5 => k_is); (case kinfact_yj12m6 => k_is); (case kinfact_yj12m7 => k_is)
    (case kinfact_yj12m8 => k_is); (case kinfact_yj12m9 => k_is); (case kinfact_yj12m10 => k_is); (case kinfact_yj12m11 => k_is)
    (case kinfact_yj12m12 => first | k_is | rfl); (case kinfact_yj12m13 => k_is); (case kinfact_yj12v => k_is); (case kinfact_yj12K => k_is)
    (case kinfact_iC0 => k_is); (case kinfact_tC0 => k_is); (case kinfact_iC1 => k_is); (case kinfact_tC1 => k_is)
    (case kinfact_iC2 => k_is); (case kinfact_tC2 => k_is); (case kinfact_iC3 => k_is); (case kinfact_tC3 => k_is)
    (case kinfact_iC4 => k_is); (case kinfact_tC4 => k_is); (case kinfact_iC5 => k_is); (case kinfact_tC5 => k_is)
    (case kinfact_iC6 => k_is); (case kinfact_tC6 => k_is); (case kinfact_iC7 => k_is); (case kinfact_tC7 => k_is)
    (case kinfact_iC8 => k_is); (case kinfact_tC8 => k_is); (case kinfact_iC9 => k_is); (case kinfact_tC9 => k_is)
    (case kinfact_iC10 => k_is); (case kinfact_tC10 => k_is); (case kinfact_iC11 => k_is); (case kinfact_tC11 => k_is)
    (case kinfact_iC12 => k_is); (case kinfact_tC12 => k_is); (case kinfact_iC13 => k_is); (case kinfact_tC13 => k_is)
    (case kinfact_iK => k_is); (case kinfact_tK => k_is); (case kinfact_bK => k_is); (case kinfact_o1 => k_is)
    (case kinfact_o2 => k_is); (case kinfact_gH => k_is); (case kinfact_ma_init => k_is); (case kinfact_mi_init => k_is)
    (case kinfact_ml_init => k_is); (case kinfact_mc_init => k_is); (case kinfact_mk_init => k_is); (case kinfact_ma_len => k_is)
    (case kinfact_mi_len => k_is); (case kinfact_ml_len => k_is); (case kinfact_mc_len => k_is); (case kinfact_mk_len => k_is)
    (case kinfact_ma_become => k_is); (case kinfact_mi_become => k_is); (case kinfact_ml_become => k_is); (case kinfact_mc_become => k_is)
    (case kinfact_mk_become => k_is); (case kinfact_ma_born => k_is); (case kinfact_mi_born => k_is); (case kinfact_ml_born => k_is)
    (case kinfact_mc_born => k_is); (case kinfact_mk_born => k_is); (case kinfact_mt_born => k_is); (case kinfact_ma_found => k_is)
    (case kinfact_mi_found => k_is); (case kinfact_ml_found => k_is); (case kinfact_mc_found => k_is); (case kinfact_mk_found => k_is)
    (case kinfact_ma_speak => k_is); (case kinfact_mi_speak => k_is); (case kinfact_ml_speak => k_is); (case kinfact_mc_speak => k_is)
    (case kinfact_mk_speak => k_is); (case kinfact_ma_undo => k_is); (case kinfact_mi_undo => k_is); (case kinfact_ml_undo => k_is)
    (case kinfact_mc_undo => k_is); (case kinfact_mk_undo => k_is); (case kinfact_ma_family => k_is); (case kinfact_mi_family => k_is)
    (case kinfact_ml_family => k_is); (case kinfact_mc_family => k_is); (case kinfact_mk_family => k_is); (case kinfact_ma_speech => k_is)
    (case kinfact_mi_speech => k_is); (case kinfact_ml_speech => k_is); (case kinfact_mc_speech => k_is); (case kinfact_mk_speech => k_is)
    (case kinfact_ma_twin => k_is); (case kinfact_mi_twin => k_is); (case kinfact_ml_twin => k_is); (case kinfact_mc_twin => k_is)
    (case kinfact_mk_twin => k_is); (case kinfact_cpg => k_is); (case kinfact_chd => k_is); (case kinfact_cpo => k_is)
    (case kinfact_csa => k_is); (case kinfact_cmk => k_is); (case kinfact_ckc => k_is); (case kinfact_cn_family => k_is)
    (case kinfact_cn_speech => k_is); (case kinfact_cn_past => k_is)

