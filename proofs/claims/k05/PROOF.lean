import PyProof.Rows.All
import Wide.All
import OpenK.AllK
import Wide.FinOn
import HandS.ForMost
import HandS.ForExc
import HandS.IsInst
import HandS.ExcIs
import HandS.HotCalls
import HandS.Walk
import HandS.Rev
import HandS.Zip
import HandS.SortRule
import HandS.Wide
import HandS.Conv
import HandS.Flow
import HandS.Style
import PySem.Challenge.RW_kincalls_k05_steps_refused
import KE.GoesZip
import KE.GoesEnum
import KE.GoesMore
import KE.KRevIter
import HandS.RevTup
import HandS.MapObj
import HandS.MapJoin
import KE.KDictZip
import PyProof.ListNew
set_option Elab.async false
set_option linter.all false
set_option maxRecDepth 100000
set_option maxHeartbeats 2000000
namespace Kin
open PySem PySem.Spec PyProof.Rows L2

/-! ### a list's item read for an operator's store -/
section
variable {X : Cx}
def rGetL (K : PySem.W.Frag) : V → V → Hp → VK → Prop := fun x y H Q => ∃ p xs i v, x = .ref p ∧ y = .int i ∧ SqL K H p xs ∧ 0 ≤ i ∧ xs[i.toNat]? = some v ∧ Q v H
theorem get_list : PGet X (rGetL X.K) := by
  intro pins s σ H o i ov iv Q I ro ri h
  obtain ⟨p, xs, j, z, rfl, rfl, hq, h0, he, q⟩ := h
  cases ro
  obtain ⟨t, rfl⟩ := ri
  obtain ⟨its, r, pl, hz⟩ := I.list hq
  obtain ⟨w, ew, rw'⟩ := r.get he
  have hl := r.length
  have hn := line63
  have hj : j.toNat < xs.length := by
    obtain ⟨h1, _⟩ := List.getElem?_eq_some_iff.mp he
    exact h1
  exact wpAny_getItem_list (x := w) pl.isList h0 (by omega) (by simpa using ew) ⟨z, H, I, rw', q⟩

/-! ### list.count of flat items -/
def rCntF (K : PySem.W.Frag) : V → List V → Hp → VK → Prop := fun x xs H Q => ∃ (p : Addr) (ys : List V) (y : V), x = .ref p ∧ xs = [y] ∧ SqL K H p ys ∧ flatV y = true ∧ ys.all flatV = true ∧ Q (.int (ys.countP fun z => eqV z y : Nat)) H
theorem countP_eqU {x : V} : ∀ {xs : List V} {us : List Value}, Vals xs us → xs.all flatV = true → us.countP (eqU x) = xs.countP fun y => eqV y x
  | _, _, .nil, _ => rfl
  | y :: xs, u :: us, .cons r t, f => by
    rw [List.all_cons, Bool.and_eq_true] at f
    rw [List.countP_cons, List.countP_cons, eqU_of r f.1, countP_eqU t f.2]
theorem mt_countF : MtR X "list.count" (rCntF X.K) := by
  intro pins s σ H x xs v us Q I rx rxs h
  obtain ⟨p, ys, y, rfl, rfl, hs, fy, fys, q⟩ := h
  cases rx
  obtain ⟨u, rfl, ru⟩ := rxs.one
  obtain ⟨its, rv, ⟨⟨cls, dd, data, sl⟩, n, ho, hc, hdn, hd⟩, hlen⟩ := I.list hs
  simp only at hc hd
  subst hc hd
  refine call_meets PySem.F.slot_list_count ⟨_, ho, rfl⟩ PySem.F.entry_list_count (PySem.F.args_list_count_2 _ _)
    (SeqAt.list_countAt p its.toArray n dd sl u (eqU y)) ⟨ho, fun z hz => mem_eqAt ru fy rv fys z (by simpa using hz), ?_⟩
  have ec : its.toArray.toList.countP (eqU y) = ys.countP fun z => eqV z y := countP_eqU rv fys
  refine ⟨.int (ys.countP (fun z => eqV z y) : Nat), H, I.tok _, ⟨s.toks, ?_⟩, q⟩
  show Value.int ((its.toArray.toList.countP (eqU y) : Nat) : Int) s.toks = Value.int ((ys.countP (fun z => eqV z y) : Nat) : Int) s.toks
  rw [ec]
end

/-! ### a call whose callee is an expression: one of several defs -/
/-- the promise goes with the address -/
structure HeldX (P : Program) (w : World) (K : PySem.W.Frag) (mg : Str → Option Value) (base : Heap) (CX : CXT) (k : Nat) (f : Addr) (sp : Sp) : Prop where
  ex : ∃ (fd : FuncData) (ps : List Str), FnOk P w K mg base CX k f fd ps sp ∧ PySem.W.keepIn K (.ref f) = true ∧ Binds K fd ps []
def tCallX (te : TE) (S : Addr → Sp → Prop) (E : L2.St → XK) (t : TA) : TE := fun σ H Q => te σ H fun x H1 => ∃ f sp, x = .ref f ∧ S f sp ∧ t σ H1 fun vs H2 => sp vs H2 Q (E σ)
theorem arm_call_sub (a b : Expr) (p : Pos) (args : List Expr) (keywords : List Keyword) (pos : Pos) (env : Env) : eval (.Call (.Subscript a b p) args keywords pos) env = (do
    callWith pos (← eval (.Subscript a b p) env) [] (backTo pos (starEach args env)) (backToKw pos (keywordEach keywords env))) := rfl
theorem pe_callX {X : Cx} {CX : CXT} {k : Nat} {S : Addr → Sp → Prop} {E : L2.St → XK} {a b e : Expr} {es : List Expr} {te : TE} {t : TA} {p pos : Pos} (hS : ∀ f sp, S f sp → HeldX X.prog X.w X.K X.mg X.base CX k f sp) (hr : Room k X.A)
    (hx : ∀ σ, PassesAt CX X σ (E σ)) (hf : PE X (.Subscript a b p) te) (ha : PA X (e :: es) t) (he : starEach (e :: es) X.env = (false, eval e X.env) :: starEach es X.env := by rfl)
    (hpl : (backTo pos (starEach es X.env)).any (·.1) = false := by rfl) : PE X (.Call (.Subscript a b p) (e :: es) [] pos) (tCallX te S E t) := by
  refine ⟨fun pins s σ H Q I h => ?_⟩
  rw [arm_call_sub]
  refine wpAny_bind (thn (hf.run pins s σ H _ I h) fun u s1 ⟨v, H1, I1, r1, q1⟩ => ?_)
  obtain ⟨f, sp, rfl, hs, ht⟩ := q1
  cases r1
  obtain ⟨fd, ps, F, hk, hb⟩ := (hS f sp hs).ex
  refine PySem.W.callWith_K (h₀ := X.base) I.ok.mod.kin hk (thn (ha.run pos pins s1 σ H1 _ I1 ht) fun us s2 ⟨vs, H2, I2, r, q⟩ => ⟨I2.kIn, ?_⟩) he hpl
  exact run_fnS F hr hb (hx σ) I2 r q

/-! ### defs called with the exception that the suite holds -/
/-- an exception of the class c, not more told of it -/
def Held (c : Value) (o : Obj) : Prop := Zc c none o ∧ ∃ vs, o.data = .fields vs
structure FnP (P : Program) (w : World) (K : PySem.W.Frag) (mg : Str → Option Value) (base : Heap) (k : Nat) (f : Addr) (fd : FuncData) (ps : List Str) (sp : Addr → Value → Sp) : Prop where
  len : ∀ a c vs H Q E, sp a c vs H Q E → vs.length = ps.length
  run : ∀ (A : Around) (outer : List Env) (s : Shared) (H : Hp) (args : Args) (us : List Value) (vs : List V) (Q : VK) (E : XK) (p : Addr × Obj) (c : Value), Held c p.2 → L2H.RoomH k A → L2H.PinOk outer H s p →
    Env0 P w K mg base A outer s H → BindsTo s fd args (ps.zip us) → Vals vs us → sp p.1 c vs H Q E → codeAny (model P w) A (.call (.ref f) args) (CR CX0 outer P w H s Q E) s
theorem fn_ofP {P : Program} {w : World} {K : PySem.W.Frag} {mg : Str → Option Value} {base : Heap} {k : Nat} {f : Addr} {x qual : Str} {st : Stmt} {fd : FuncData} {N ps : List Str} {sp : Addr → Value → Sp}
    (F : Fun K x qual st f fd) (S : FnScope N ps (defScope st)) (len : ∀ a c vs H Q E, sp a c vs H Q E → vs.length = ps.length)
    (hbody : ∀ (cdv : Value) (A : Around) (outer : List Env) (s : Shared) (H : Hp) (vs : List V) (Q : VK) (E : XK) (p : Addr × Obj) (c : Value), Held c p.2 → L2H.RoomH k (A.deeper (envOfC qual (defScope st) s.heap.objs.size f cdv)) → sp p.1 c vs H Q E →
      ∃ t, PSs (L2H.cxH CX0 P w K mg base N qual (defScope st) f cdv A outer s H E p) (defBody st) t ∧ t { nx := fun _ H' => Q .non H', rt := Q } (L2.start N vs) H) :
    FnP P w K mg base (k + 1) f fd ps sp := by
  obtain ⟨oc, od, kV, doc, pm, an, cdv, ct, osl, rfl, lk, hcd⟩ := F.ex
  refine ⟨len, ?_⟩
  intro A outer s H args us vs Q E p c hc hr hpin e0 hb r hsp
  have hin : K.In s.heap := e0.mod.kin.keeps (fun b o e => And.left (e0.bs b o e))
  refine codeAny_call_function hr.depth (hin _ _ lk) rfl S.co S.gen rfl (PySem.W.codeRec_of hin hcd) (hb _ _ _ _ (wpAny_newFunctionEnv_cells S.kind ?_ ?_))
  · rintro ⟨n, v⟩ hy
    exact (S.par n (List.of_mem_zip hy).1).elim .inl fun q => .inr ⟨q, PySem.W.cellsFrom_some _ _ _ (.inl q)⟩
  · intro env he s1 y
    subst he
    refine ⟨(e0.mod.nolimit.keeps (fun b o e => And.left (e0.bs b o e))).keeps y.toInCall.keep, codeAny_func ?_⟩
    obtain ⟨t, ht, hq⟩ := hbody cdv A outer s H vs Q E p c hc (hr.deeper _) hsp
    refine wpAny_mono (ht.run [] s1 (L2.start N vs) H _ (L2H.inv_startH S hpin e0 (len _ _ _ _ _ _ hsp) r y) hq) ?_ (fun _ _ z => z)
    intro fl s' hs
    match fl, hs with
    | .ret u, ⟨v, σ', H', J, rv, z⟩ => exact ⟨v, H', J.os, J.bare, J.base, J.hok, rv, z⟩
    | .next, ⟨σ', H', J, z⟩ => exact ⟨V.non, H', J.os, J.bare, J.base, J.hok, rfl, z⟩
    | .brk, ⟨_, _, _, z⟩ => exact z.elim
    | .cont, ⟨_, _, _, z⟩ => exact z.elim
section
variable {X : Cx} {k : Nat} {f : Addr} {fd : FuncData} {ps : List Str} {sp : Addr → Value → Sp} {x : Str} {q pos : Pos} {e : Expr} {es : List Expr} {t : TA}
/-- a call of such a def within the suite -/
def tCallP (a : Addr) (cls : Value) (d : Option Addr) (sp : Addr → Value → Sp) (t : TA) : TE := fun σ H Q => d = none ∧ t σ H fun vs H1 => sp a cls vs H1 Q E0
theorem pe_callP {a : Addr} {oe : Obj} {cls : Value} {d : Option Addr} (F : FnP X.prog X.w X.K X.mg X.base k f fd ps sp) (hr : L2H.RoomH k X.A) (hp : (a, oe) ∈ X.pn) (hz : Zc cls d oe) (hf : ∃ vs, oe.data = .fields vs) (hg : Gl X x) (hm : X.mg x = some (.ref f))
    (hk : PySem.W.keepIn X.K (.ref f) = true) (hb : Binds X.K fd ps []) (ha : PA X (e :: es) t) (hdb : (x == ("__debug__" : Str)) = false := by decide) (he : starEach (e :: es) X.env = (false, eval e X.env) :: starEach es X.env := by rfl)
    (hpl : (backTo pos (starEach es X.env)).any (·.1) = false := by rfl) : PE X (.Call (.Name x q) (e :: es) [] pos) (tCallP a cls d sp t) := by
  refine ⟨fun pins s σ H Q I h => ?_⟩
  obtain ⟨rfl, h⟩ := h
  refine wpAny_Call_Name_kw (ld_glob I hg hm (PySem.W.callWith_K (h₀ := X.base) I.ok.mod.kin hk (thn (ha.run pos pins s σ H _ I h) ?_) he hpl) hdb)
  rintro us s1 ⟨vs, H1, J, r, h1⟩
  refine ⟨J.kIn, ?_⟩
  have b := hb s1 us J.kIn (by rw [List.append_nil, ← r.length]; exact F.len _ _ _ _ _ _ h1)
  rw [List.append_nil] at b
  obtain ⟨g1, g2, g3, g4, g5⟩ := J.pin (a, oe) (List.mem_append_left _ hp)
  refine wpAny_call (codeAny_mono (F.run X.A X.stack s1 H1 ⟨us, []⟩ us vs Q E0 (a, oe) cls ⟨hz, hf⟩ hr ⟨g1, g2, fun hm => (List.mem_cons.mp (J.stkSub a hm)).elim g3 g4, g5⟩ J.env0 b r h1) ?_)
  intro r s' hq
  match r, hq with
  | .error _, hq => exact hq.elim
  | .ok (.ret _), hq => exact J.after hq
  | .ok .next, hq => exact hq.elim
  | .ok .brk, hq => exact hq.elim
  | .ok .cont, hq => exact hq.elim
end
/-- isinstance(e, c), e the pinned exception, of the class D -/
def rIsP (K : PySem.W.Frag) (D a : Addr) : List V → Hp → VK → Prop := fun xs H Q => ∃ (C : V) (cv : Value) (b : Bool), xs = [.ref a, C] ∧ (∀ u, RelV C u → u = cv) ∧ PySem.W.kitOne K (.ref D) cv = some b ∧ Q (.bl b) H
theorem call_isP {X : Cx} {D : Addr} {p : Addr × Obj} (C : ExcC X.K D) (hp : p ∈ X.pn) (hh : Held (.ref D) p.2) : CallR X (.builtin "isinstance") (rIsP X.K D p.1) := by
  rintro pins s σ H xs us Q I r ⟨c, cv, b, rfl, hcv, e, q⟩
  obtain ⟨⟨h1, h2⟩, vs, hv⟩ := hh
  obtain ⟨u1, u2, rfl, rx, rt⟩ := vals2 r
  cases rx
  cases hcv _ rt
  have J : PySem.W.InstAt s.heap p.1 p.2 D none := ⟨(I.pin p (List.mem_append_left _ hp)).1, h1, by unfold PySem.W.notCls; rw [hv], by rw [h2]; trivial⟩
  exact PySem.W.kia_one (PySem.W.handS_kitx_exc C.hg C.hk C.hs C.hd C.ha C.hn C.ht C.hm) I.kIn J e (fun z => nomatch z) fun tk => ⟨.bl b, H, I.kept (t' := tk) fun _ _ z => z, rfl, q⟩

/-! ### things of any kind, as isinstance(x, str) asks -/
def isStr : V → Bool
  | .str _ => true
  | _ => false
/-- of a known built-in type -/
def Th (K : PySem.W.Frag) (H : Hp) (x : V) : Prop := ∃ n : String, TyX K H x (.type n) ∧ kitB n "str" = some (isStr x)
theorem th_non {K : PySem.W.Frag} {H : Hp} : Th K H .non := ⟨_, .base .non, by decide +kernel⟩
theorem th_bl {K : PySem.W.Frag} {H : Hp} {b : Bool} : Th K H (.bl b) := ⟨_, .base (.bl b), show kitB "bool" "str" = some false by decide +kernel⟩
theorem th_int {K : PySem.W.Frag} {H : Hp} {i : Int} : Th K H (.int i) := ⟨_, .base (.int i), show kitB "int" "str" = some false by decide +kernel⟩
theorem th_str {K : PySem.W.Frag} {H : Hp} {z : Str} : Th K H (.str z) := ⟨_, .base (.str z), show kitB "str" "str" = some true by decide +kernel⟩
theorem th_lst {K : PySem.W.Frag} {H : Hp} {a : Addr} {xs : List V} (h : H a = some (.lst xs)) : Th K H (.ref a) := ⟨_, .base (.lst h), show kitB "list" "str" = some false by decide +kernel⟩
theorem th_tup {K : PySem.W.Frag} {H : Hp} {a : Addr} {xs : List V} (h : H a = some (.tup xs)) : Th K H (.ref a) := ⟨_, .base (.tup h), show kitB "tuple" "str" = some false by decide +kernel⟩
/-! ### the module's constants -/
section
variable {X : Cx} {x : Str} {pos : Pos}
theorem pe_gS {z : Str} {t : Tok} (hg : Gl X x) (hm : X.mg x = some (.str z t)) (hd : (x == ("__debug__" : Str)) = false := by decide) : PE X (.Name x pos) (tC (.str z)) := pe_glob hg hm ⟨_, rfl⟩ hd
theorem pe_gI {i : Int} {t : Tok} (hg : Gl X x) (hm : X.mg x = some (.int i t)) (hd : (x == ("__debug__" : Str)) = false := by decide) : PE X (.Name x pos) (tC (.int i)) := pe_glob hg hm ⟨_, rfl⟩ hd
theorem pe_gR {a : Addr} (hg : Gl X x) (hm : X.mg x = some (.ref a)) (hd : (x == ("__debug__" : Str)) = false := by decide) : PE X (.Name x pos) (tC (.ref a)) := pe_glob (v := .ref a) hg hm rfl hd
end
theorem b_str : bootBuiltins "str" = some (.type "str") := by decide +kernel
theorem b_int : bootBuiltins "int" = some (.type "int") := by decide +kernel
theorem b_tuple : bootBuiltins "tuple" = some (.type "tuple") := by decide +kernel
theorem b_list : bootBuiltins "list" = some (.type "list") := by decide +kernel
theorem b_ValueError : bootBuiltins "ValueError" = some (.type "ValueError") := by decide +kernel
theorem same_upd {H : Hp} {p : Addr} {o : HO} (h : H p = none) : Same H (upd H p o) := fun b x e => by
  rw [upd_ne (ne_of_none e h)]
  exact e
/-! ### comprehensions without a test -/
section
variable {J : It} {n : Nat} {G : Hp → Prop} {Y : Nat → Hp → V → Hp → Prop}
theorem lc_itY (w : Walk J n G Y) {g : TG} {te : TE} {vs : List Nat} {σ : L2.St} {H1 : Hp} {D : Addr} {Qd : Hp → Prop} (Pv : Nat → Hp → Prop) (h0 : Pv 0 (upd H1 D (.lst []))) (hG : ∀ i H, i ≤ n → Pv i H → G H)
    (hs : ∀ i x H H', i < n → Pv i H → Y i H x H' → g x (wipe σ vs) H' fun σ2 H2 => wipe σ2 vs = wipe σ vs ∧ te σ2 H2 fun y H4 => ∃ acc, H4 D = some (.lst acc) ∧ acc.length < sizeLine ∧ Pv (i + 1) (upd H4 D (.lst (acc ++ [y])))) (hd : ∀ H, Pv n H → Qd H) :
    ∃ W : Nat → Nat → Hp → Prop, (∃ m, W 0 m (upd H1 D (.lst []))) ∧ ∀ i m H, W i m H →
      (J.stop i H ∧ Qd H) ∨ (J.go i H ∧ ∃ Nx : Hp → Prop, (∀ H', Nx H' → ∃ m', m' < m ∧ W (i + 1) m' H') ∧ ∀ x H', J.yld i H x H' → g x (wipe σ vs) H' fun σ2 H2 => wipe σ2 vs = wipe σ vs ∧ tYes σ2 H2 fun b H3 =>
        if b = true then te σ2 H3 fun y H4 => ∃ acc, H4 D = some (.lst acc) ∧ acc.length < sizeLine ∧ Nx (upd H4 D (.lst (acc ++ [y]))) else Nx H3) :=
  lc_it (tt := tYes) w Pv h0 hG (fun i x H H' hi p y => hs i x H H' hi p y) hd
end
/-! ### a list of ints as data -/
theorem dp_ints {K : PySem.W.Frag} {H : Hp} : ∀ ns : List Int, DpAll K H (ns.map V.int) (ns.map PyData.int)
  | [] => .nil
  | n :: ns => .cons (.int n) (dp_ints ns)
theorem can_ints : ∀ ns : List Int, PyData.canLayAll0 (ns.map PyData.int) = true
  | [] => rfl
  | n :: ns => by
    rw [List.map_cons]
    show (true && PyData.canLayAll0 (ns.map PyData.int)) = true
    rw [can_ints ns]
    rfl
theorem depth_ints : ∀ ns : List Int, PyData.depthAll (ns.map PyData.int) = 0
  | [] => rfl
  | n :: ns => by
    rw [List.map_cons]
    show max 0 (PyData.depthAll (ns.map PyData.int)) = 0
    rw [depth_ints ns]
    rfl
theorem shaped_ints (ns : List Int) : SeqAt.shaped (.list (ns.map PyData.int)) = true := by
  unfold SeqAt.shaped
  have h1 : PyData.canLay0 (.list (ns.map PyData.int)) = true := can_ints ns
  have h2 : PyData.depth (.list (ns.map PyData.int)) = 1 := by
    show PyData.depthAll (ns.map PyData.int) + 1 = 1
    rw [depth_ints]
  rw [h1, h2]
  rfl
/-! ### the town: [how many cells are gone, what is left of a great one] -/
structure TownAt (H : Hp) (p : Addr) : Prop where
  ex : ∃ i j : Int, 0 ≤ i ∧ H p = some (.lst [.int i, .int j])
/-- all that was tracked, but what stands at p, is as it was -/
def SameBut (p : Addr) (H H' : Hp) : Prop := ∀ b o, b ≠ p → H b = some o → H' b = some o
theorem SameBut.refl (p : Addr) (H : Hp) : SameBut p H H := fun _ _ _ h => h
theorem SameBut.trans {p : Addr} {H H1 H2 : Hp} (a : SameBut p H H1) (b : SameBut p H1 H2) : SameBut p H H2 := fun c o n h => b c o n (a c o n h)
theorem _root_.L2.Same.but {p : Addr} {H H' : Hp} (s : Same H H') : SameBut p H H' := fun b o _ h => s b o h
theorem SameBut.upd {p : Addr} {H H' : Hp} {o : HO} (s : SameBut p H H') : SameBut p H (upd H' p o) := fun b u n h => by
  rw [upd_ne n]
  exact s b u n h
theorem SameBut.lay {p q : Addr} {H H' : Hp} {o : HO} (s : SameBut p H H') (h : H' q = none) : SameBut p H (L2.upd H' q o) := fun b u n e => same_upd h b u (s b u n e)
theorem SameBut.seq {K : PySem.W.Frag} {p : Addr} {H H' : Hp} {a : Addr} {xs : List V} (s : SameBut p H H') (n : a ≠ p) (h : SqL K H a xs) : SqL K H' a xs := by
  rcases h with (h | ⟨o, h⟩) | h
  · exact .inl (.inl (s _ _ n h))
  · exact .inl (.inr ⟨o, s _ _ n h⟩)
  · exact .inr h
/-- a list that is read, whatever becomes of p -/
def Stb (K : PySem.W.Frag) (H : Hp) (p a : Addr) (xs : List V) : Prop := ∀ H', SameBut p H H' → SqL K H' a xs
theorem stb_new {K : PySem.W.Frag} {H : Hp} {p a : Addr} {o : HO} {xs : List V} (h : SqL K H a xs) (n : H p = none) : Stb K (upd H p o) p a xs := by
  intro H' s
  rcases h with (h | ⟨o, h⟩) | h
  · exact .inl (.inl (s _ _ (ne_of_none h n) (by rw [upd_ne (ne_of_none h n)]; exact h)))
  · exact .inl (.inr ⟨o, s _ _ (ne_of_none h n) (by rw [upd_ne (ne_of_none h n)]; exact h)⟩)
  · exact .inr h
theorem Stb.mono {K : PySem.W.Frag} {H H' : Hp} {p a : Addr} {xs : List V} (h : Stb K H p a xs) (s : SameBut p H H') : Stb K H' p a xs := fun H2 s2 => h H2 (s.trans s2)
/-- a draw: a number below m, the town turned -/
def sp_draw (K : PySem.W.Frag) : Sp := fun vs H Q _ => ∃ (a p : Addr) (ns : List Int) (m : Int), vs = [.ref a, .ref p, .int m] ∧ Stb K H p a (ns.map V.int) ∧ ns.length ≤ 63 ∧ TownAt H p ∧ 0 < m ∧ m < 1073741824 ∧
  ∀ H' r, 0 ≤ r → r < m → TownAt H' p → SameBut p H H' → Q (.int r) H'
/-- one of some -/
def sp_pick (K : PySem.W.Frag) : Sp := fun vs H Q _ => ∃ (a p l : Addr) (ns : List Int) (xs : List V), vs = [.ref a, .ref p, .ref l] ∧ Stb K H p a (ns.map V.int) ∧ ns.length ≤ 63 ∧ TownAt H p ∧ SqL K H l xs ∧ l ≠ p ∧ xs ≠ [] ∧ xs.length ≤ 1000 ∧
  ∀ H' x, x ∈ xs → TownAt H' p → SameBut p H H' → Q x H'
/-! ### xs.extend([..]): the heap behind it by what is asked of it -/
theorem Same.ext {H H1 : Hp} {l b : Addr} {o u : HO} (s : Same H H1) (nl : H l = none) (nb : H1 b = none) : Same H (upd (upd H1 b o) l u) := fun c z e => by
  rw [upd_ne (ne_of_none e nl), upd_ne (ne_of_none (s c z e) nb)]
  exact s c z e
theorem ext_step {H H1 : Hp} {l b : Addr} {xs zs : List V} {Q : VK} (s : Same H H1) (nl : H l = none) (e : H1 l = some (.lst xs)) (nb : H1 b = none) (hl : xs.length + zs.length ≤ sizeLine)
    (k : ∀ H2, Same H H2 → H2 l = some (.lst (xs ++ zs)) → Q .non H2) : rExtend (.ref l) [.ref b] (upd H1 b (.lst zs)) Q :=
  ⟨l, b, xs, zs, rfl, rfl, (upd_ne (ne_of_none e nb)).trans e, upd_same, hl, k _ (Same.ext s nl nb) upd_same⟩
/-! ### a text of one sign, so many times -/
def strRep (x : Str) (n : Nat) : Str := ⟨(List.replicate n x.cps).foldl (· ++ ·) #[]⟩
theorem op_mulS {X : Cx} : OpR X (binaryOp .Mult) (fun x y H Q => ∃ (z : Str) (n : Nat), x = .str z ∧ y = .int (n : Nat) ∧ z.length = 1 ∧ 1 < n ∧ n ≤ 100000 ∧ (strRep z n).length ≤ sizeLine ∧ Q (.str (strRep z n)) H) := by
  intro pins s σ H x y v u Q I rx ry h
  obtain ⟨z, n, rfl, rfl, hz, h1, h2, h3, q⟩ := h
  obtain ⟨t, rfl⟩ := rx
  obtain ⟨t', rfl⟩ := ry
  have c1 : ¬ ((n : Int) < 1) := by omega
  have c2 : ((n : Int) == 1 || z.length == 0) = false := by
    rw [hz, Bool.or_eq_false_iff]
    exact ⟨beq_eq_false_iff_ne.mpr (by omega), rfl⟩
  refine PySem.P.mul_str ?_ (fun _ _ => ?_) (fun _ _ => ?_) ?_
  · rw [decide_eq_false (by omega), decide_eq_false (by omega)]
    rfl
  · rw [hz]
    intro hgt
    have h5 : (n : Int) * ((2 ^ 63 - 1) / (n : Int)) ≤ 2 ^ 63 - 1 := Int.mul_ediv_self_le (by omega)
    have h6 : (1 : Int) ≤ (2 ^ 63 - 1) / (n : Int) := Int.le_ediv_of_mul_le (by omega) (by omega)
    have : ((1 : Nat) : Int) > (2 ^ 63 - 1) / (n : Int) := hgt
    omega
  · have e : Int.toNat (n : Int) = n := rfl
    rw [hz, e]
    unfold Builtin.Str.tooLong
    rw [sizeLine_eq]
    exact decide_eq_false (by omega)
  · rw [if_neg c1, if_neg (by rw [c2]; exact Bool.false_ne_true)]
    exact ⟨h3, .str (strRep z n), H, I.tok _, ⟨_, rfl⟩, q⟩
theorem TownAt.but {H H' : Hp} {p : Addr} (t : TownAt H p) (s : Same H H') : TownAt H' p := by
  obtain ⟨i, j, h, e⟩ := t
  exact ⟨i, j, h, s _ _ e⟩
theorem TownAt.lt {H : Hp} {p q : Addr} (t : TownAt H p) (h : H q = none) : p ≠ q := by
  obtain ⟨i, j, _, e⟩ := t
  exact ne_of_none e h
end Kin

set_option maxHeartbeats 2000000
namespace K05
open PySem PySem.Spec PyProof.Rows L2 Kin
def top (i : Nat) : Stmt := PySem.Challenge.pw_kincalls_k05_steps_refused.main.body.getD i (.Pass ⟨0, 0, 0, 0⟩)
abbrev s_is_sex : Stmt := top 19
abbrev N_is_sex : List Str := ["thing"]
theorem sc_is_sex : FnScope N_is_sex ["thing"] (defScope s_is_sex) := ⟨rfl, rfl, rfl, by decide +kernel, rfl, by decide +kernel, by decide +kernel⟩
abbrev s_is_row : Stmt := top 24
abbrev N_is_row : List Str := ["thing", "sign"]
theorem sc_is_row : FnScope N_is_row ["thing"] (defScope s_is_row) := ⟨rfl, rfl, rfl, by decide +kernel, rfl, by decide +kernel, by decide +kernel⟩
abbrev s_need_sex : Stmt := top 25
abbrev N_need_sex : List Str := ["thing"]
theorem sc_need_sex : FnScope N_need_sex ["thing"] (defScope s_need_sex) := ⟨rfl, rfl, rfl, by decide +kernel, rfl, by decide +kernel, by decide +kernel⟩
abbrev s_need_row : Stmt := top 26
abbrev N_need_row : List Str := ["thing"]
theorem sc_need_row : FnScope N_need_row ["thing"] (defScope s_need_row) := ⟨rfl, rfl, rfl, by decide +kernel, rfl, by decide +kernel, by decide +kernel⟩

/-! ### what the top has written -/
structure ExT (K : PySem.W.Frag) (mg : Str → Option Value) (n : Str) (C : Addr) : Prop where
  g : mg n = some (.ref C)
  x : PySem.W.excIn K C [.type "ValueError", .type "Exception", .type "BaseException", .type "object"] "ValueError.__new__" = true
  k : PySem.W.keepIn K (.ref C) = true
  b : PySem.W.subIn K (.ref C) (.type "BaseException") = some true
  t : PySem.W.typeIn K (.ref C) = some (.type "type")
structure Txt (K : PySem.W.Frag) (mg : Str → Option Value) where
  n_isinstance : mg "isinstance" = none
  n_str : mg "str" = none
  n_len : mg "len" = none
  n_all : mg "all" = none
  n_range : mg "range" = none
  aSEXES : Addr
  g_SEXES : mg "SEXES" = some (.ref aSEXES)
  q_SEXES : ∀ H, SqT K H aSEXES [.str "he", .str "she"]
  tSTEPS : Tok
  g_STEPS : mg "STEPS" = some (.str "fmsd" tSTEPS)
  tUPWARD : Tok
  g_UPWARD : mg "UPWARD" = some (.str "fm" tUPWARD)
  tMS : Tok
  g_MOST_STEPS : mg "MOST_STEPS" = some (.int 60 tMS)
  aNoSex : Addr
  c_NoSex : ExT K mg "NoSex" aNoSex
  aNoRow : Addr
  c_NoRow : ExT K mg "NoRow" aNoRow
structure Df (K : PySem.W.Frag) (mg : Str → Option Value) (x : Str) (st : Stmt) (ps : List Str) (a : Addr) (fd : FuncData) : Prop where
  F : Fun K x x st a fd
  b : Binds K fd ps []
  g : mg x = some (.ref a)

/-! ### the mathematics -/
def sexV : V → Bool
  | .str z => decide (z = "he") || decide (z = "she")
  | _ => false
def stepC (c : Nat) : Bool := decide (c ∈ ("fmsd" : Str).cps.toList)
def rowV : V → Bool
  | .str z => decide (z.length ≤ 60) && z.cps.toList.all stepC
  | _ => false
/-- a thing that may be handed in -/
structure In (K : PySem.W.Frag) (H : Hp) (x : V) : Prop where
  th : Th K H x
  sm : ∀ z, x = .str z → z.length ≤ 1000
section
variable {P : Program} {w : World} {K : PySem.W.Frag} {mg : Str → Option Value} {base : Heap}

def sp_is_sex (K : PySem.W.Frag) : Sp := fun vs H Q _ => ∃ x, vs = [x] ∧ In K H x ∧ Q (.bl (sexV x)) H
theorem ok_is_sex {f : Addr} {fd : FuncData} (T : Txt K mg) (d : Df K mg "is_sex" s_is_sex ["thing"] f fd) : FnOk P w K mg base CX0 1 f fd ["thing"] (sp_is_sex K) := by
  refine d.F.ok sc_is_sex (fun vs H Q E h => ?_) (fun cdv A outer s H vs Q E hr h => ?_)
  · obtain ⟨x, rfl, _⟩ := h
    rfl
  · obtain ⟨x, rfl, hi, q⟩ := h
    refine ⟨_, (pss_one (ps_ret (pe_and (pe_callB call_isi (by rfl) T.n_isinstance boot_isinstance (pa_cons (pv 0) (pa_cons (pe_bltn (v := .ty "str") (by rfl) T.n_str b_str rfl) pa_nil))) (pe_one (pe_cmpR op_in_seq (pv 0) (pe_gR rfl T.g_SEXES) (by rfl)))))), ?_⟩
    obtain ⟨n, ty, kb⟩ := hi.th
    refine ⟨x, rfl, x, .ty "str", .type n, .type "str", _, rfl, .ty "str", ty, kit_ty kb, _, rfl, ?_⟩
    cases x with
    | str z =>
      refine iteT ?_
      refine ⟨_, rfl, T.aSEXES, _, rfl, .inr (T.q_SEXES _), rfl, rfl, ?_⟩
      have e : inV (.str z) [.str "he", .str "she"] = sexV (.str z) := by
        unfold inV sexV
        simp only [List.any_cons, List.any_nil, Bool.or_false, eqV]
        rw [show (("he" : Str) == z) = decide (z = "he") by rw [Bool.beq_comm]; rfl, show (("she" : Str) == z) = decide (z = "she") by rw [Bool.beq_comm]; rfl]
      rw [if_neg Bool.false_ne_true, e]
      exact q
    | _ => exact iteF q

def sp_is_row (K : PySem.W.Frag) : Sp := fun vs H Q _ => ∃ x, vs = [x] ∧ In K H x ∧ ∀ H', Same H H' → Q (.bl (rowV x)) H'
theorem ok_is_row {f : Addr} {fd : FuncData} (T : Txt K mg) (d : Df K mg "is_row" s_is_row ["thing"] f fd) : FnOk P w K mg base CX0 1 f fd ["thing"] (sp_is_row K) := by
  refine d.F.ok sc_is_row (fun vs H Q E h => ?_) (fun cdv A outer s H vs Q E hr h => ?_)
  · obtain ⟨x, rfl, _⟩ := h
    rfl
  · obtain ⟨x, rfl, hi, q⟩ := h
    refine ⟨_, (pss_cons (ps_if (PW.pt (pw_or (pt_not (pt_val (pe_callB call_isi (by rfl) T.n_isinstance boot_isinstance (pa_cons (pv 0) (pa_cons (pe_bltn (v := .ty "str") (by rfl) T.n_str b_str rfl) pa_nil))))) (pw_or1 (pt_cmpR op_gt (pe_callB call_len_str (by rfl) T.n_len boot_len (pa_cons (pv 0) pa_nil)) (pe_gI rfl T.g_MOST_STEPS) (nomark _)))))
        (pss_one (ps_ret pe_bl))
        pss_nil)
      (pss_one (ps_ret (pe_callB (cr_all rfl) (by rfl) T.n_all boot_all (pa_cons (pe_lc (own := [("sign", 1)]) (g := gName 1) (tt := tYes) rfl sc_is_row.nd (pi_str (pv 0)) (blkOk_by (N := N_is_row) (sc := defScope s_is_row) (by decide +kernel)) (fun _ _ _ _ _ => pg_name (i := 1) sc_is_row.nd rfl (Or.inl rfl)) (fun _ _ _ _ _ => pts_nil) (fun _ _ _ _ _ => (pe_cmpR op_in_sign (pv 1) (pe_gS rfl T.g_STEPS) (by rfl)))) pa_nil))))), ?_⟩
    obtain ⟨n, ty, kb⟩ := hi.th
    refine ⟨x, rfl, x, .ty "str", .type n, .type "str", _, rfl, .ty "str", ty, kit_ty kb, _, rfl, ?_⟩
    cases x with
    | str z =>
      have hz := hi.sm z rfl
      refine iteF ?_
      refine ⟨_, rfl, z, rfl, Nat.le_of_lt (small1000 hz), _, _, rfl, rfl, _, rfl, ?_⟩
      by_cases hl : z.length ≤ 60
      · rw [decide_eq_false (by omega)]
        refine iteF ?_
        refine ⟨_, rfl, z, rfl, fun D nD => ?_⟩
        refine lc_itY (walk_str (z := z)) (fun i H' => H' = upd H D (.lst ((z.cps.toList.take i).map fun c => V.bl (stepC c)))) ?_ (fun _ _ _ _ => trivial) ?_ ?_
        · rfl
        · rintro i v H1 H2 hi rfl ⟨rfl, c, hc, rfl⟩
          refine ⟨rfl, ?_⟩
          refine ⟨_, rfl, c, _, rfl, rfl, ?_⟩
          refine ⟨_, upd_same, ?_, ?_⟩
          · rw [List.length_map, List.length_take]
            exact Nat.lt_of_le_of_lt (Nat.min_le_left _ _) (small1000 (by have : z.length = z.cps.size := rfl; omega))
          · rw [upd_upd, List.take_add_one]
            have : z.cps.toList[i]? = some c := by simpa using hc
            rw [this, List.map_append]
            rfl
        · rintro H' rfl
          refine ⟨D, z.cps.toList.map stepC, rfl, .inl (.inl ?_), ?_⟩
          · rw [upd_same, List.map_map]
            congr 2
            rw [List.take_of_length_le (by simp)]
            rfl
          · have e : (z.cps.toList.map stepC).all id = rowV (.str z) := by
              show _ = (decide (z.length ≤ 60) && z.cps.toList.all stepC)
              rw [decide_eq_true hl, Bool.true_and, List.all_map]
              rfl
            rw [e]
            exact q _ (same_upd nD)
      · rw [decide_eq_true (by omega)]
        refine iteT ?_
        have e : rowV (.str z) = false := by
          show (decide (z.length ≤ 60) && z.cps.toList.all stepC) = false
          rw [decide_eq_false hl, Bool.false_and]
        rw [e] at q
        exact q _ (Same.refl _)
    | _ => exact iteT (q _ (Same.refl _))
end
end K05

set_option maxHeartbeats 2000000
namespace K05
open PySem PySem.Spec PyProof.Rows L2 Kin
abbrev s_sex_behind : Stmt := top 27
abbrev N_sex_behind : List Str := ["step"]
theorem sc_sex_behind : FnScope N_sex_behind ["step"] (defScope s_sex_behind) := ⟨rfl, rfl, rfl, by decide +kernel, rfl, by decide +kernel, by decide +kernel⟩
abbrev s_sexes_along : Stmt := top 28
abbrev N_sexes_along : List Str := ["sex", "row", "step"]
theorem sc_sexes_along : FnScope N_sexes_along ["sex", "row"] (defScope s_sexes_along) := ⟨rfl, rfl, rfl, by decide +kernel, rfl, by decide +kernel, by decide +kernel⟩
abbrev s_back_step : Stmt := top 29
abbrev N_back_step : List Str := ["sex", "step"]
theorem sc_back_step : FnScope N_back_step ["sex", "step"] (defScope s_back_step) := ⟨rfl, rfl, rfl, by decide +kernel, rfl, by decide +kernel, by decide +kernel⟩
abbrev s_goes_straight : Stmt := top 30
abbrev N_goes_straight : List Str := ["sex", "row", "sexes", "at", "gone"]
theorem sc_goes_straight : FnScope N_goes_straight ["sex", "row"] (defScope s_goes_straight) := ⟨rfl, rfl, rfl, by decide +kernel, rfl, by decide +kernel, by decide +kernel⟩
abbrev s_is_straight : Stmt := top 31
abbrev N_is_straight : List Str := ["sex", "row"]
theorem sc_is_straight : FnScope N_is_straight ["sex", "row"] (defScope s_is_straight) := ⟨rfl, rfl, rfl, by decide +kernel, rfl, by decide +kernel, by decide +kernel⟩
/-! ### the mathematics: a row by its signs' codes, a sex by whether it is he -/
def sexC (b : Bool) : Str := if b then "he" else "she"
abbrev rowS (r : List Nat) : Str := ⟨r.toArray⟩
abbrev sgn (c : Nat) : Str := ⟨#[c]⟩
def heOf (c : Nat) : Bool := decide (c ∈ ("fs" : Str).cps.toList)
def upC (c : Nat) : Bool := decide (c ∈ ("fm" : Str).cps.toList)
def along (b : Bool) (r : List Nat) : List Bool := b :: r.map heOf
def backC (b : Bool) (c : Nat) : Str := if upC c then (if b then "s" else "d") else (if b then "f" else "m")
def bad (b : Bool) (r : List Nat) (k : Nat) : Bool := !upC (r.getD k 0) && decide (sgn (r.getD (k + 1) 0) = backC ((along b r).getD k false) (r.getD k 0))
def straight (b : Bool) (r : List Nat) : Bool := (List.range (r.length - 1)).all fun k => !bad b r k
theorem sexV_sexC (b : Bool) : sexV (.str (sexC b)) = true := by cases b <;> decide +kernel
theorem of_sexV {x : V} (h : sexV x = true) : ∃ b, x = .str (sexC b) := by
  cases x with
  | str z =>
    have h' : (decide (z = "he") || decide (z = "she")) = true := h
    rw [Bool.or_eq_true, decide_eq_true_eq, decide_eq_true_eq] at h'
    rcases h' with rfl | rfl
    · exact ⟨true, rfl⟩
    · exact ⟨false, rfl⟩
  | _ => exact Bool.noConfusion h
theorem of_rowV {x : V} (h : rowV x = true) : ∃ r : List Nat, x = .str (rowS r) ∧ r.length ≤ 60 ∧ r.all stepC = true := by
  cases x with
  | str z =>
    have h' : (decide (z.length ≤ 60) && z.cps.toList.all stepC) = true := h
    rw [Bool.and_eq_true, decide_eq_true_eq] at h'
    exact ⟨z.cps.toList, by simp, by rw [Array.length_toList]; exact h'.1, h'.2⟩
  | _ => exact Bool.noConfusion h
theorem sexC_he (b : Bool) : decide (V.str (sexC b) = V.str "he") = b := by cases b <;> decide +kernel
theorem straight_true {b : Bool} {r : List Nat} (h : ∀ k, k < r.length - 1 → bad b r k = false) : straight b r = true := by
  unfold straight
  rw [List.all_eq_true]
  intro k hk
  rw [h k (List.mem_range.mp hk)]
  rfl
theorem straight_false {b : Bool} {r : List Nat} {k : Nat} (hk : k < r.length - 1) (h : bad b r k = true) : straight b r = false := by
  unfold straight
  rw [List.all_eq_false]
  exact ⟨k, List.mem_range.mpr hk, by rw [h]; decide⟩
theorem along_len (b : Bool) (r : List Nat) : (along b r).length = r.length + 1 := by
  unfold along
  rw [List.length_cons, List.length_map]
/-! ### the defs -/
structure Txt2 (K : PySem.W.Frag) (mg : Str → Option Value) extends Txt K mg where
  a_is_sex : Addr
  f_is_sex : FuncData
  d_is_sex : Df K mg "is_sex" s_is_sex ["thing"] a_is_sex f_is_sex
  a_is_row : Addr
  f_is_row : FuncData
  d_is_row : Df K mg "is_row" s_is_row ["thing"] a_is_row f_is_row
  a_need_sex : Addr
  f_need_sex : FuncData
  d_need_sex : Df K mg "need_sex" s_need_sex ["thing"] a_need_sex f_need_sex
  a_need_row : Addr
  f_need_row : FuncData
  d_need_row : Df K mg "need_row" s_need_row ["thing"] a_need_row f_need_row
  a_sex_behind : Addr
  f_sex_behind : FuncData
  d_sex_behind : Df K mg "sex_behind" s_sex_behind ["step"] a_sex_behind f_sex_behind
  a_sexes_along : Addr
  f_sexes_along : FuncData
  d_sexes_along : Df K mg "sexes_along" s_sexes_along ["sex", "row"] a_sexes_along f_sexes_along
  a_back_step : Addr
  f_back_step : FuncData
  d_back_step : Df K mg "back_step" s_back_step ["sex", "step"] a_back_step f_back_step
  a_goes_straight : Addr
  f_goes_straight : FuncData
  d_goes_straight : Df K mg "goes_straight" s_goes_straight ["sex", "row"] a_goes_straight f_goes_straight
  a_is_straight : Addr
  f_is_straight : FuncData
  d_is_straight : Df K mg "is_straight" s_is_straight ["sex", "row"] a_is_straight f_is_straight
section
variable {P : Program} {w : World} {K : PySem.W.Frag} {mg : Str → Option Value} {base : Heap}
def sp_need_sex (K : PySem.W.Frag) (C : Addr) : Sp := fun vs H Q E => ∃ x, vs = [x] ∧ In K H x ∧ (sexV x = true → Q .non H) ∧ (sexV x = false → E (.ref C) none H)
theorem ok_need_sex (T : Txt2 K mg) : FnOk P w K mg base (L2.CX P w) 2 T.a_need_sex T.f_need_sex ["thing"] (sp_need_sex K T.aNoSex) := by
  have G_is_sex : FnOk P w K mg base CX0 1 T.a_is_sex T.f_is_sex ["thing"] (sp_is_sex K) := ok_is_sex T.toTxt T.d_is_sex
  refine T.d_need_sex.F.okX sc_need_sex (fun vs H Q E h => ?_) (fun cdv A outer s H vs Q E hr h => ?_)
  · obtain ⟨x, rfl, _⟩ := h
    rfl
  · obtain ⟨x, rfl, hi, q1, q2⟩ := h
    refine ⟨_, (pss_one (ps_if (pt_not (pt_val (pe_call G_is_sex (hr.mono (by decide)) rfl T.d_is_sex.g T.d_is_sex.F.kp T.d_is_sex.b .nil pass0 (pa_cons (pv 0) pa_nil))))
        (pss_one (ps_raise rfl (takes_of rfl rfl rfl rfl) (pmk_own PySem.F.excBase_ValueError T.c_NoSex.x T.c_NoSex.g T.c_NoSex.k (raises_own T.c_NoSex.b T.c_NoSex.t) (by exact rfl))))
        pss_nil)), ?_⟩
    refine ⟨x, rfl, x, rfl, hi, _, rfl, ?_⟩
    cases e : sexV x with
    | true => exact iteF (q1 e)
    | false => exact iteT (q2 e)
def sp_need_row (K : PySem.W.Frag) (C : Addr) : Sp := fun vs H Q E => ∃ x, vs = [x] ∧ In K H x ∧ ∀ H', Same H H' → (rowV x = true → Q .non H') ∧ (rowV x = false → E (.ref C) none H')
theorem ok_need_row (T : Txt2 K mg) : FnOk P w K mg base (L2.CX P w) 2 T.a_need_row T.f_need_row ["thing"] (sp_need_row K T.aNoRow) := by
  have G_is_row : FnOk P w K mg base CX0 1 T.a_is_row T.f_is_row ["thing"] (sp_is_row K) := ok_is_row T.toTxt T.d_is_row
  refine T.d_need_row.F.okX sc_need_row (fun vs H Q E h => ?_) (fun cdv A outer s H vs Q E hr h => ?_)
  · obtain ⟨x, rfl, _⟩ := h
    rfl
  · obtain ⟨x, rfl, hi, q⟩ := h
    refine ⟨_, (pss_one (ps_if (pt_not (pt_val (pe_call G_is_row (hr.mono (by decide)) rfl T.d_is_row.g T.d_is_row.F.kp T.d_is_row.b .nil pass0 (pa_cons (pv 0) pa_nil))))
        (pss_one (ps_raise rfl (takes_of rfl rfl rfl rfl) (pmk_own PySem.F.excBase_ValueError T.c_NoRow.x T.c_NoRow.g T.c_NoRow.k (raises_own T.c_NoRow.b T.c_NoRow.t) (by exact rfl))))
        pss_nil)), ?_⟩
    refine ⟨x, rfl, x, rfl, hi, fun H' sm => ⟨_, rfl, ?_⟩⟩
    cases e : rowV x with
    | true => exact iteF ((q H' sm).1 e)
    | false => exact iteT ((q H' sm).2 e)

def sp_sex_behind : Sp := fun vs H Q _ => ∃ c : Nat, vs = [.str (sgn c)] ∧ Q (.str (sexC (heOf c))) H
theorem ok_sex_behind (T : Txt2 K mg) : FnOk P w K mg base CX0 1 T.a_sex_behind T.f_sex_behind ["step"] sp_sex_behind := by
  refine T.d_sex_behind.F.ok sc_sex_behind (fun vs H Q E h => ?_) (fun cdv A outer s H vs Q E hr h => ?_)
  · obtain ⟨c, rfl, _⟩ := h
    rfl
  · obtain ⟨c, rfl, q⟩ := h
    refine ⟨_, (pss_one (ps_ret (pe_ifExp (pt_cmpR op_in_sign (pv 0) pe_str (by rfl)) pe_str pe_str))), ?_⟩
    refine ⟨_, rfl, c, _, rfl, rfl, _, rfl, ?_⟩
    show (if heOf c = true then _ else _)
    cases e : heOf c with
    | true => rw [e] at q; exact iteT q
    | false => rw [e] at q; exact iteF q
def sp_sexes_along : Sp := fun vs H Q _ => ∃ (b : Bool) (r : List Nat), vs = [.str (sexC b), .str (rowS r)] ∧ r.length ≤ 1000 ∧
  ∀ H' p, Same H H' → H p = none → H' p = some (.lst ((along b r).map fun b => V.str (sexC b))) → Q (.ref p) H'
theorem ok_sexes_along (T : Txt2 K mg) : FnOk P w K mg base CX0 2 T.a_sexes_along T.f_sexes_along ["sex", "row"] sp_sexes_along := by
  have G_sex_behind : FnOk P w K mg base CX0 1 T.a_sex_behind T.f_sex_behind ["step"] sp_sex_behind := ok_sex_behind T
  refine T.d_sexes_along.F.ok sc_sexes_along (fun vs H Q E h => ?_) (fun cdv A outer s H vs Q E hr h => ?_)
  · obtain ⟨b, r, rfl, _⟩ := h
    rfl
  · obtain ⟨b, r, rfl, hl, q⟩ := h
    refine ⟨_, (pss_one (ps_ret (pe_op op_cat (pe_lst (pa_cons (pv 0) pa_nil)) (pe_lc (own := [("step", 2)]) (g := gName 2) (tt := tYes) rfl sc_sexes_along.nd (pi_str (pv 1)) (blkOk_by (N := N_sexes_along) (sc := defScope s_sexes_along) (by decide +kernel)) (fun _ _ _ _ _ => pg_name (i := 2) sc_sexes_along.nd rfl (Or.inl rfl)) (fun _ _ _ _ _ => pts_nil) (fun _ _ _ _ _ => (pe_call G_sex_behind (hr.mono (by decide)) rfl T.d_sex_behind.g T.d_sex_behind.F.kp T.d_sex_behind.b .nil pass0 (pa_cons (pv 2) pa_nil))))))), ?_⟩
    refine ⟨_, rfl, (by show 1 ≤ sizeLine; decide), fun p1 n1 => ?_⟩
    refine ⟨_, rfl, rowS r, rfl, fun D nD => ?_⟩
    have nDp : p1 ≠ D := fun z => by rw [← z, upd_same] at nD; cases nD
    refine lc_itY (walk_str (z := rowS r)) (fun i H' => H' = upd (upd H p1 (.lst [.str (sexC b)])) D (.lst ((r.take i).map fun c => V.str (sexC (heOf c))))) ?_ (fun _ _ _ _ => trivial) ?_ ?_
    · rfl
    · rintro i v H1 H2 hi rfl ⟨rfl, c, hc, rfl⟩
      refine ⟨rfl, ?_⟩
      refine ⟨_, rfl, c, rfl, ?_⟩
      refine ⟨_, upd_same, ?_, ?_⟩
      · rw [List.length_map, List.length_take]
        exact Nat.lt_of_le_of_lt (Nat.min_le_right _ _) (small1000 hl)
      · rw [upd_upd, List.take_add_one]
        have : r[i]? = some c := by simpa using hc
        rw [this, List.map_append]
        rfl
    · rintro H' rfl
      have et : r.take (rowS r).cps.size = r := List.take_of_length_le (by simp)
      rw [et]
      refine ⟨p1, D, _, _, rfl, rfl, by rw [upd_ne nDp]; exact upd_same, upd_same, ?_, fun p np => ?_⟩
      · rw [List.length_map]
        show 1 + r.length ≤ sizeLine
        rw [sizeLine_eq]
        omega
      · have s1 : Same H (upd H p1 (.lst [.str (sexC b)])) := same_upd n1
        have s2 := s1.trans (same_upd (o := .lst (r.map fun c => V.str (sexC (heOf c)))) nD)
        refine q _ p (s2.trans (same_upd np)) (s2.free np) ?_
        rw [upd_same]
        unfold along
        rw [List.map_cons, List.map_map]
        rfl
def sp_back_step : Sp := fun vs H Q _ => ∃ (b : Bool) (c : Nat), vs = [.str (sexC b), .str (sgn c)] ∧ Q (.str (backC b c)) H
theorem ok_back_step (T : Txt2 K mg) : FnOk P w K mg base CX0 1 T.a_back_step T.f_back_step ["sex", "step"] sp_back_step := by
  refine T.d_back_step.F.ok sc_back_step (fun vs H Q E h => ?_) (fun cdv A outer s H vs Q E hr h => ?_)
  · obtain ⟨b, c, rfl, _⟩ := h
    rfl
  · obtain ⟨b, c, rfl, q⟩ := h
    refine ⟨_, (pss_cons (ps_if (pt_cmpR op_in_sign (pv 1) (pe_gS rfl T.g_UPWARD) (by rfl))
        (pss_one (ps_ret (pe_ifExp (pt_cmpR op_eq (pv 0) pe_str (nomark _)) pe_str pe_str)))
        pss_nil)
      (pss_one (ps_ret (pe_ifExp (pt_cmpR op_eq (pv 0) pe_str (nomark _)) pe_str pe_str)))), ?_⟩
    refine ⟨_, rfl, c, _, rfl, rfl, _, rfl, ?_⟩
    show (if upC c = true then _ else _)
    unfold backC at q
    cases e : upC c with
    | true =>
      rw [e] at q
      refine iteT ?_
      refine ⟨_, rfl, rfl, _, rfl, ?_⟩
      show (if decide (V.str (sexC b) = V.str "he") = true then _ else _)
      rw [sexC_he]
      cases b with
      | true => exact iteT q
      | false => exact iteF q
    | false =>
      rw [e] at q
      refine iteF ?_
      refine ⟨_, rfl, rfl, _, rfl, ?_⟩
      show (if decide (V.str (sexC b) = V.str "he") = true then _ else _)
      rw [sexC_he]
      cases b with
      | true => exact iteT q
      | false => exact iteF q
def sp_goes_straight : Sp := fun vs H Q _ => ∃ (b : Bool) (r : List Nat), vs = [.str (sexC b), .str (rowS r)] ∧ r.length ≤ 1000 ∧ ∀ H', Same H H' → Q (.bl (straight b r)) H'
theorem getD_some {α : Type} {l : List α} {k : Nat} {d : α} (h : k < l.length) : l[k]? = some (l.getD k d) := by
  rw [List.getD_eq_getElem?_getD, List.getElem?_eq_getElem h]
  rfl
theorem ok_goes_straight (T : Txt2 K mg) : FnOk P w K mg base CX0 3 T.a_goes_straight T.f_goes_straight ["sex", "row"] sp_goes_straight := by
  have G_sexes_along : FnOk P w K mg base CX0 2 T.a_sexes_along T.f_sexes_along ["sex", "row"] sp_sexes_along := ok_sexes_along T
  have G_back_step : FnOk P w K mg base CX0 1 T.a_back_step T.f_back_step ["sex", "step"] sp_back_step := ok_back_step T
  refine T.d_goes_straight.F.ok sc_goes_straight (fun vs H Q E h => ?_) (fun cdv A outer s H vs Q E hr h => ?_)
  · obtain ⟨b, r, rfl, _⟩ := h
    rfl
  · obtain ⟨b, r, rfl, hl, q⟩ := h
    refine ⟨_, (pss_cons (ps_set (i := 2) sc_goes_straight.nd rfl (Or.inl rfl) (pe_call G_sexes_along (hr.mono (by decide)) rfl T.d_sexes_along.g T.d_sexes_along.F.kp T.d_sexes_along.b .nil pass0 (pa_cons (pv 0) (pa_cons (pv 1) pa_nil))))
      (pss_cons (ps_for PassesOwn.never rfl (pi_range2 (by rfl) T.n_range (pa_cons pe_int (pa_cons (pe_callB call_len_str (by rfl) T.n_len boot_len (pa_cons (pv 1) pa_nil)) pa_nil))) (pg_name (i := 3) sc_goes_straight.nd rfl (Or.inl rfl))
        (pss_cons (ps_set (i := 4) sc_goes_straight.nd rfl (Or.inl rfl) (pe_ix ix_str (pv 1) (pe_op op_sub (pv 3) pe_int) (fun _ _ => rfl)))
        (pss_one (ps_if (PW.pt (pw_and (pt_cmpR op_notIn_sign (pv 4) (pe_gS rfl T.g_UPWARD) (by rfl)) (pw_and1 (pt_cmpR op_eq (pe_ix ix_str (pv 1) (pv 3) (fun _ _ => rfl)) (pe_call G_back_step (hr.mono (by decide)) rfl T.d_back_step.g T.d_back_step.F.kp T.d_back_step.b .nil pass0 (pa_cons (pe_ix ix_list (pv 2) (pe_op op_sub (pv 3) pe_int) (fun _ _ => rfl)) (pa_cons (pv 4) pa_nil))) (nomark _)))))
          (pss_one (ps_ret pe_bl))
          pss_nil))))
      (pss_one (ps_ret pe_bl)))), ?_⟩
    have hsz : (rowS r).length = r.length := by
      show r.toArray.size = r.length
      simp
    refine ⟨_, rfl, _, rfl, b, r, rfl, hl, fun H1 p sm np hp => ?_⟩
    refine ⟨_, rfl, rowS r, rfl, by rw [hsz, sizeLine_eq]; omega, 1, _, rfl, ⟨by decide, by decide, by omega, by rw [hsz]; omega⟩, ?_⟩
    refine for_range (lo := 1) (fun i σ H2 => (∀ k, k < i → bad b r k = false) ∧ H2 = H1 ∧ ∃ x3 x4, σ = [some (.str (sexC b)), some (.str (rowS r)), some (.ref p), x3, x4]) ⟨fun k hk => absurd hk (Nat.not_lt_zero _), rfl, _, _, rfl⟩ ?_ ?_
    · rintro i σ H2 hi ⟨hk, rfl, x3, x4, rfl⟩
      have hi' : i + 1 < r.length := by rw [hsz] at hi; omega
      have e1 : (1 : Int) + (i : Int) - 1 = (i : Int) := by omega
      have e2 : (1 : Int) + (i : Int) = ((i + 1 : Nat) : Int) := by omega
      have g1 : (rowS r).cps.toList[i]? = some (r.getD i 0) := getD_some (l := r) (by omega)
      have g2 : (rowS r).cps.toList[i + 1]? = some (r.getD (i + 1) 0) := getD_some (l := r) (by omega)
      refine ⟨_, rfl, _, rfl, _, _, rfl, rfl, rowS r, (i : Int), r.getD i 0, rfl, (by show V.int (1 + (i : Int) - 1) = _; rw [e1]), (by rw [hsz, sizeLine_eq]; omega), atI_nat g1, ?_⟩
      refine ⟨_, rfl, r.getD i 0, _, rfl, rfl, _, rfl, ?_⟩
      show (if (!upC (r.getD i 0)) = true then _ else _)
      have hb : bad b r i = (!upC (r.getD i 0) && decide (sgn (r.getD (i + 1) 0) = backC ((along b r).getD i false) (r.getD i 0))) := rfl
      cases eu : upC (r.getD i 0) with
      | true =>
        refine iteF ?_
        refine iteF ?_
        refine ⟨fun k hk' => ?_, rfl, _, _, rfl⟩
        rcases Nat.lt_succ_iff_lt_or_eq.mp hk' with z | z
        · exact hk k z
        · rw [z, hb, eu]
          rfl
      | false =>
        refine iteT ?_
        have g3 : ((along b r).map fun b => V.str (sexC b))[i]? = some (V.str (sexC ((along b r).getD i false))) := by
          rw [List.getElem?_map, getD_some (by rw [along_len]; omega : i < (along b r).length) (d := false)]
          rfl
        refine ⟨_, rfl, _, rfl, rowS r, _, r.getD (i + 1) 0, rfl, rfl, (by rw [hsz, sizeLine_eq]; omega), (by rw [e2]; exact atI_nat g2), ?_⟩
        refine ⟨_, rfl, _, rfl, _, _, rfl, rfl, p, _, (i : Int), _, rfl, (by show V.int (1 + (i : Int) - 1) = _; rw [e1]), .inl (.inl hp), atI_nat g3, ?_⟩
        refine ⟨_, rfl, _, _, rfl, rfl, _, rfl, ?_⟩
        show (if decide (V.str (sgn (r.getD (i + 1) 0)) = V.str (backC ((along b r).getD i false) (r.getD i 0))) = true then _ else _)
        have ed : decide (V.str (sgn (r.getD (i + 1) 0)) = V.str (backC ((along b r).getD i false) (r.getD i 0))) = decide (sgn (r.getD (i + 1) 0) = backC ((along b r).getD i false) (r.getD i 0)) := by
          simp
        rw [ed]
        cases ec : decide (sgn (r.getD (i + 1) 0) = backC ((along b r).getD i false) (r.getD i 0)) with
        | true =>
          refine iteT ?_
          have hbad : bad b r i = true := by rw [hb, eu, ec]; rfl
          rw [straight_false (by omega) hbad] at q
          exact q _ sm
        | false =>
          refine iteF ?_
          refine ⟨fun k hk' => ?_, rfl, _, _, rfl⟩
          rcases Nat.lt_succ_iff_lt_or_eq.mp hk' with z | z
          · exact hk k z
          · rw [z, hb, eu, ec]
            rfl
    · rintro σ H2 ⟨hk, rfl, x3, x4, rfl⟩
      rw [straight_true (fun k hk' => hk k (by rw [hsz]; omega))] at q
      exact q _ sm
def sp_is_straight (K : PySem.W.Frag) (CS CR : Addr) : Sp := fun vs H Q E => ∃ x y, vs = [x, y] ∧ In K H x ∧ In K H y ∧ (sexV x = false → E (.ref CS) none H) ∧ (sexV x = true → rowV y = false → ∀ H', Same H H' → E (.ref CR) none H') ∧
  (∀ b r, x = .str (sexC b) → y = .str (rowS r) → rowV y = true → ∀ H', Same H H' → Q (.bl (straight b r)) H')
theorem ok_is_straight (T : Txt2 K mg) : FnOk P w K mg base (L2.CX P w) 4 T.a_is_straight T.f_is_straight ["sex", "row"] (sp_is_straight K T.aNoSex T.aNoRow) := by
  have G_need_sex : FnOk P w K mg base (L2.CX P w) 2 T.a_need_sex T.f_need_sex ["thing"] (sp_need_sex K T.aNoSex) := ok_need_sex T
  have G_need_row : FnOk P w K mg base (L2.CX P w) 2 T.a_need_row T.f_need_row ["thing"] (sp_need_row K T.aNoRow) := ok_need_row T
  have G_goes_straight : FnOk P w K mg base CX0 3 T.a_goes_straight T.f_goes_straight ["sex", "row"] sp_goes_straight := ok_goes_straight T
  refine T.d_is_straight.F.okX sc_is_straight (fun vs H Q E h => ?_) (fun cdv A outer s H vs Q E hr h => ?_)
  · obtain ⟨x, y, rfl, _⟩ := h
    rfl
  · obtain ⟨x, y, rfl, hx, hy, e1, e2, q⟩ := h
    refine ⟨_, (pss_cons (ps_expr (pe_callS G_need_sex (hr.mono (by decide)) rfl T.d_need_sex.g T.d_need_sex.F.kp T.d_need_sex.b (fun σ => passAt (takes_of rfl rfl rfl rfl) σ) (pa_cons (pv 0) pa_nil)))
      (pss_cons (ps_expr (pe_callS G_need_row (hr.mono (by decide)) rfl T.d_need_row.g T.d_need_row.F.kp T.d_need_row.b (fun σ => passAt (takes_of rfl rfl rfl rfl) σ) (pa_cons (pv 1) pa_nil)))
      (pss_one (ps_ret (pe_call G_goes_straight (hr.mono (by decide)) rfl T.d_goes_straight.g T.d_goes_straight.F.kp T.d_goes_straight.b .nil pass0 (pa_cons (pv 0) (pa_cons (pv 1) pa_nil))))))), ?_⟩
    refine ⟨x, rfl, x, rfl, hx, fun hs => ?_, e1⟩
    refine ⟨y, rfl, y, rfl, hy, fun H1 s1 => ⟨fun hr' => ?_, fun hr' => e2 hs hr' H1 s1⟩⟩
    obtain ⟨b, rfl⟩ := of_sexV hs
    obtain ⟨r, rfl, hl, _⟩ := of_rowV hr'
    exact ⟨_, rfl, _, rfl, b, r, rfl, by omega, fun H2 s2 => q b r rfl rfl hr' H2 (s1.trans s2)⟩
end
end K05

set_option maxHeartbeats 2000000
namespace K05
open PySem PySem.Spec PyProof.Rows L2 Kin
abbrev s_law_draw : Stmt := top 41
abbrev N_law_draw : List Str := ["_law_script", "_law_town", "_law_many", "_law_at", "_law_mixed", "_law_one"]
theorem sc_law_draw : FnScope N_law_draw ["_law_script", "_law_town", "_law_many"] (defScope s_law_draw) := ⟨rfl, rfl, rfl, by decide +kernel, rfl, by decide +kernel, by decide +kernel⟩
abbrev s_law_pick : Stmt := top 42
abbrev N_law_pick : List Str := ["_law_script", "_law_town", "_law_some"]
theorem sc_law_pick : FnScope N_law_pick ["_law_script", "_law_town", "_law_some"] (defScope s_law_pick) := ⟨rfl, rfl, rfl, by decide +kernel, rfl, by decide +kernel, by decide +kernel⟩
structure Txt3 (K : PySem.W.Frag) (mg : Str → Option Value) extends Txt2 K mg where
  a_law_draw : Addr
  f_law_draw : FuncData
  d_law_draw : Df K mg "_law_draw" s_law_draw ["_law_script", "_law_town", "_law_many"] a_law_draw f_law_draw
  a_law_pick : Addr
  f_law_pick : FuncData
  d_law_pick : Df K mg "_law_pick" s_law_pick ["_law_script", "_law_town", "_law_some"] a_law_pick f_law_pick
section
variable {P : Program} {w : World} {K : PySem.W.Frag} {mg : Str → Option Value} {base : Heap}
theorem mixed_small (x : Int) : (x % 2147483647).natAbs < 2 ^ 64 := by
  have h1 := Int.emod_nonneg x (b := 2147483647) (by decide)
  have h2 := Int.emod_lt_of_pos x (b := 2147483647) (by decide)
  omega
theorem ok_draw (T : Txt3 K mg) : FnOk P w K mg base CX0 1 T.a_law_draw T.f_law_draw ["_law_script", "_law_town", "_law_many"] (sp_draw K) := by
  refine T.d_law_draw.F.ok sc_law_draw (fun vs H Q E h => ?_) (fun cdv A outer s H vs Q E hr h => ?_)
  · obtain ⟨a, p, ns, m, rfl, _⟩ := h
    rfl
  · obtain ⟨a, p, ns, m, rfl, hB, hl, ⟨i, j, hi, hp⟩, m0, m1, q⟩ := h
    have hS : SqL K H a (ns.map V.int) := hB H (SameBut.refl p H)
    refine ⟨_, (pss_cons (ps_if (pt_cmpR op_gt (pe_ix ix_list (pv 1) pe_int (fun _ _ => rfl)) pe_int (nomark _))
        (pss_cons (ps_set (i := 5) sc_law_draw.nd rfl (Or.inl rfl) (pe_op op_mod (pe_ix ix_list (pv 1) pe_int (fun _ _ => rfl)) (pv 2)))
        (pss_cons (ps_asg (pe_op op_fdiv (pe_ix ix_list (pv 1) pe_int (fun _ _ => rfl)) (pv 2)) (pg_sub (pv 1) pe_int set_list))
        (pss_one (ps_ret (pv 5)))))
        pss_nil)
      (pss_cons (ps_set (i := 3) sc_law_draw.nd rfl (Or.inl rfl) (pe_ix ix_list (pv 1) pe_int (fun _ _ => rfl)))
      (pss_cons (ps_augS (pv 1) pe_int get_list pe_int ip_add set_list)
      (pss_cons (ps_if (pt_cmpR (op_eqD hr.units) (pv 0) (pe_lst pa_nil) (nomark _))
        (pss_one (ps_ret (pe_op op_mod (pv 3) (pv 2))))
        pss_nil)
      (pss_cons (ps_if (PW.pt (pw_and (pt_cmpR op_lt (pv 3) (pe_callB call_len_seq (by rfl) T.n_len boot_len (pa_cons (pv 0) pa_nil)) (nomark _)) (pw_and1 (pt_cmpR op_ge (pe_ix ix_list (pv 0) (pv 3) (fun _ _ => rfl)) (pe_op op_pow pe_int pe_int) (nomark _)))))
        (pss_cons (ps_asg (pe_op op_mod (pe_op op_fdiv (pe_ix ix_list (pv 0) (pv 3) (fun _ _ => rfl)) (pv 2)) (pe_op op_mulW (pe_op op_pow pe_int pe_int) (pe_op op_pow pe_int pe_int))) (pg_sub (pv 1) pe_int set_list))
        (pss_one (ps_ret (pe_op op_mod (pe_ix ix_list (pv 0) (pv 3) (fun _ _ => rfl)) (pv 2)))))
        pss_nil)
      (pss_cons (ps_set (i := 4) sc_law_draw.nd rfl (Or.inl rfl) (pe_op op_mod (pe_op op_add (pe_op op_add (pe_op op_mul (pe_ix ix_list (pv 0) (pe_op op_mod (pv 3) (pe_callB call_len_seq (by rfl) T.n_len boot_len (pa_cons (pv 0) pa_nil))) (fun _ _ => rfl)) pe_int) (pe_op op_mul pe_int (pv 3))) pe_int) pe_int))
      (pss_one (ps_ret (pe_op op_mod (pe_op op_mod (pe_op op_mod (pe_op op_pow (pv 4) pe_int) pe_int) pe_int) (pv 2)))))))))), ?_⟩
    have hL : SqL K H p [.int i, .int j] := .inl (.inl hp)
    have t1 : atI [V.int i, V.int j] 1 = some (V.int j) := rfl
    have t0 : atI [V.int i, V.int j] 0 = some (V.int i) := rfl
    have x1 : ixN [V.int i, V.int j].length 1 = some 1 := rfl
    have x0 : ixN [V.int i, V.int j].length 0 = some 0 := rfl
    refine ⟨_, rfl, p, _, 1, _, rfl, rfl, hL, t1, _, _, rfl, rfl, _, rfl, ?_⟩
    refine ite2 (fun _ => ?_) (fun _ => ?_)
    · -- what is left of a great one
      refine ⟨_, rfl, p, _, 1, _, rfl, rfl, hL, t1, _, rfl, _, _, rfl, rfl, m0, ?_⟩
      refine ⟨_, rfl, p, _, 1, _, rfl, rfl, hL, t1, _, rfl, _, _, rfl, rfl, ⟨m0, m1⟩, ?_⟩
      refine ⟨_, rfl, p, _, 1, 1, rfl, rfl, hp, x1, ?_⟩
      refine ⟨_, rfl, ?_⟩
      exact q _ _ (Int.emod_nonneg _ (by omega)) (Int.emod_lt_of_pos _ m0) ⟨i, _, hi, upd_same⟩ (SameBut.refl p H).upd
    · -- the next cell
      refine ⟨_, rfl, p, _, 0, _, rfl, rfl, hL, t0, ?_⟩
      refine ⟨_, rfl, p, _, 0, _, rfl, rfl, hL, by decide, rfl, i, 1, rfl, rfl, p, _, 0, 0, rfl, rfl, hp, x0, ?_⟩
      have hp1 : (upd H p (.lst ([V.int i, V.int j].set 0 (.int (i + 1))))) p = some (.lst [.int (i + 1), .int j]) := upd_same
      have b1 : SameBut p H (upd H p (.lst ([V.int i, V.int j].set 0 (.int (i + 1))))) := (SameBut.refl p H).upd
      generalize upd H p (.lst ([V.int i, V.int j].set 0 (.int (i + 1)))) = H1 at hp1 b1 ⊢
      have hS1 : SqL K H1 a (ns.map V.int) := hB _ b1
      -- script == []
      refine ⟨_, rfl, Nat.zero_le _, fun l nl => ?_⟩
      have nlp : p ≠ l := ne_of_none hp1 nl
      have b2 : SameBut p H (upd H1 l (.lst [])) := b1.lay nl
      have hp2 : (upd H1 l (.lst [])) p = some (.lst [.int (i + 1), .int j]) := by rw [upd_ne nlp]; exact hp1
      have hl2 : (upd H1 l (.lst [])) l = some (.lst []) := upd_same
      generalize upd H1 l (.lst []) = H2 at b2 hp2 hl2 ⊢
      have hS2 : SqL K H2 a (ns.map V.int) := hB _ b2
      have hL2 : SqL K H2 p [.int (i + 1), .int j] := .inl (.inl hp2)
      have x1' : ixN [V.int (i + 1), V.int j].length 1 = some 1 := rfl
      refine ⟨.list (ns.map PyData.int), .list [], .lst hS2 (dp_ints ns), .lst (.inl (.inl hl2)) .nil, shaped_ints ns, by decide +kernel, _, rfl, ?_⟩
      cases ns with
      | nil =>
        refine iteT ?_
        refine ⟨_, rfl, _, rfl, _, _, rfl, rfl, m0, ?_⟩
        exact q _ _ (Int.emod_nonneg _ (by omega)) (Int.emod_lt_of_pos _ m0) ⟨_, _, by omega, hp2⟩ b2
      | cons n0 ns0 =>
        refine iteF ?_
        generalize hns : n0 :: ns0 = ns at hl hS hS2 hS1 hB ⊢
        have hpos : 0 < ns.length := by rw [← hns]; exact Nat.succ_pos _
        clear hns
        have hlen : ((ns.map V.int).length : Int) = (ns.length : Int) := by rw [List.length_map]
        refine ⟨_, rfl, _, rfl, a, _, rfl, .inl hS2, _, _, rfl, rfl, _, rfl, ?_⟩
        have it : atI (ns.map V.int) (i % ((ns.map V.int).length : Int)) = some (.int (ns.getD (i % (ns.length : Int)).toNat 0)) := by
          have h1 := Int.emod_nonneg i (b := (ns.length : Int)) (by omega)
          have h2 := Int.emod_lt_of_pos i (b := (ns.length : Int)) (by omega)
          rw [hlen]
          refine at_of (j := (i % (ns.length : Int)).toNat) (by omega) ?_
          rw [List.getElem?_map, getD_some (l := ns) (d := 0) (by omega)]
          rfl
        show (if decide (i < ((ns.map V.int).length : Int)) = true then _ else _)
        by_cases c1 : i < ((ns.map V.int).length : Int)
        · rw [decide_eq_true c1]
          refine iteT ?_
          have it2 : atI (ns.map V.int) i = some (.int (ns.getD i.toNat 0)) := by
            refine at_of (j := i.toNat) (by omega) ?_
            rw [List.getElem?_map, getD_some (l := ns) (d := 0) (by omega)]
            rfl
          refine ⟨_, rfl, _, rfl, a, _, i, _, rfl, rfl, hS2, it2, _, _, rfl, rfl, ⟨by decide, by decide, by decide⟩, _, _, rfl, rfl, _, rfl, ?_⟩
          refine ite2 (fun _ => ?_) (fun _ => ?_)
          · refine ⟨_, rfl, _, rfl, a, _, i, _, rfl, rfl, hS2, it2, _, rfl, _, _, rfl, rfl, ⟨m0, m1⟩, _, _, rfl, rfl, ⟨by decide, by decide, by decide⟩, _, _, rfl, rfl, ⟨by decide, by decide, by decide⟩, ?_⟩
            refine ⟨_, _, rfl, rfl, wide_mul (a := 200) (b := 200) (by decide +kernel) (by decide +kernel) (by decide) (by decide) (by decide), _, _, rfl, rfl, (show (0 : Int) < 10 ^ Int.toNat 60 * 10 ^ Int.toNat 60 by decide +kernel), ?_⟩
            refine ⟨_, rfl, p, _, 1, 1, rfl, rfl, hp2, x1', ?_⟩
            refine ⟨_, rfl, _, rfl, a, _, i, _, rfl, rfl, hB _ b2.upd, it2, _, rfl, _, _, rfl, rfl, m0, ?_⟩
            exact q _ _ (Int.emod_nonneg _ (by omega)) (Int.emod_lt_of_pos _ m0) ⟨i + 1, _, by omega, upd_same⟩ b2.upd
          · refine ⟨_, rfl, _, rfl, _, rfl, a, _, rfl, .inl hS2, _, _, rfl, rfl, (by show (0 : Int) < ((ns.map V.int).length : Int); omega), a, _, _, _, rfl, rfl, hS2, it, ?_⟩
            refine ⟨_, _, rfl, rfl, .inr ⟨by decide, by decide⟩, _, rfl, _, _, rfl, rfl, .inl ⟨by decide, by decide⟩, _, _, rfl, rfl, _, _, rfl, rfl, _, _, rfl, rfl, (show (0 : Int) < 2147483647 by decide), ?_⟩
            refine ⟨_, rfl, _, _, rfl, rfl, ⟨by decide, by decide, mixed_small _⟩, _, _, rfl, rfl, (show (0 : Int) < 2147483647 by decide), _, _, rfl, rfl, (show (0 : Int) < 999983 by decide), _, rfl, _, _, rfl, rfl, m0, ?_⟩
            exact q _ _ (Int.emod_nonneg _ (by omega)) (Int.emod_lt_of_pos _ m0) ⟨_, _, by omega, hp2⟩ b2
        · rw [decide_eq_false c1]
          refine iteF ?_
          refine ⟨_, rfl, _, rfl, _, rfl, a, _, rfl, .inl hS2, _, _, rfl, rfl, (by show (0 : Int) < ((ns.map V.int).length : Int); omega), a, _, _, _, rfl, rfl, hS2, it, ?_⟩
          refine ⟨_, _, rfl, rfl, .inr ⟨by decide, by decide⟩, _, rfl, _, _, rfl, rfl, .inl ⟨by decide, by decide⟩, _, _, rfl, rfl, _, _, rfl, rfl, _, _, rfl, rfl, (show (0 : Int) < 2147483647 by decide), ?_⟩
          refine ⟨_, rfl, _, _, rfl, rfl, ⟨by decide, by decide, mixed_small _⟩, _, _, rfl, rfl, (show (0 : Int) < 2147483647 by decide), _, _, rfl, rfl, (show (0 : Int) < 999983 by decide), _, rfl, _, _, rfl, rfl, m0, ?_⟩
          exact q _ _ (Int.emod_nonneg _ (by omega)) (Int.emod_lt_of_pos _ m0) ⟨_, _, by omega, hp2⟩ b2
theorem ok_pick (T : Txt3 K mg) : FnOk P w K mg base CX0 2 T.a_law_pick T.f_law_pick ["_law_script", "_law_town", "_law_some"] (sp_pick K) := by
  have G_law_draw : FnOk P w K mg base CX0 1 T.a_law_draw T.f_law_draw ["_law_script", "_law_town", "_law_many"] (sp_draw K) := ok_draw T
  refine T.d_law_pick.F.ok sc_law_pick (fun vs H Q E h => ?_) (fun cdv A outer s H vs Q E hr h => ?_)
  · obtain ⟨a, p, l, ns, xs, rfl, _⟩ := h
    rfl
  · obtain ⟨a, p, l, ns, xs, rfl, hB, hl, ht, hX, nlp, nx, hx, q⟩ := h
    refine ⟨_, (pss_one (ps_ret (pe_ix ix_list (pv 2) (pe_call G_law_draw (hr.mono (by decide)) rfl T.d_law_draw.g T.d_law_draw.F.kp T.d_law_draw.b .nil pass0 (pa_cons (pv 0) (pa_cons (pv 1) (pa_cons (pe_callB call_len_seq (by rfl) T.n_len boot_len (pa_cons (pv 2) pa_nil)) pa_nil)))) (fun _ _ => rfl)))), ?_⟩
    have hpos : 0 < xs.length := List.length_pos_iff.mpr nx
    refine ⟨_, rfl, _, rfl, _, rfl, _, rfl, l, _, rfl, .inl hX, ?_⟩
    refine ⟨a, p, ns, _, rfl, hB, hl, ht, by omega, by omega, fun H' r r0 r1 ht' sb => ?_⟩
    have e : atI xs r = some (xs.getD r.toNat .non) := at_of (j := r.toNat) (by omega) (getD_some (by omega))
    refine ⟨l, xs, r, _, rfl, rfl, sb.seq nlp hX, e, ?_⟩
    refine q H' _ ?_ ht' sb
    exact List.mem_of_getElem? (getD_some (l := xs) (k := r.toNat) (d := .non) (by omega))
end
end K05

set_option maxHeartbeats 2000000
namespace K05
open PySem PySem.Spec PyProof.Rows L2 Kin
abbrev s_law_which : Stmt := top 43
abbrev N_law_which : List Str := ["_law_e", "_law_own"]
theorem sc_law_which : FnScope N_law_which ["_law_e"] (defScope s_law_which) := ⟨rfl, rfl, rfl, by decide +kernel, rfl, by decide +kernel, by decide +kernel⟩
/-- the fourteen refusals, in the law's order -/
structure Cls (K : PySem.W.Frag) (mg : Str → Option Value) where
  c0 : Addr
  c1 : Addr
  c2 : Addr
  c3 : Addr
  c4 : Addr
  c5 : Addr
  c6 : Addr
  c7 : Addr
  c8 : Addr
  c9 : Addr
  c10 : Addr
  c11 : Addr
  c12 : Addr
  c13 : Addr
  g0 : mg "NoFamily" = some (.ref c0)
  g1 : mg "NotPlain" = some (.ref c1)
  g2 : mg "NoName" = some (.ref c2)
  g3 : mg "NoSex" = some (.ref c3)
  g4 : mg "NoRow" = some (.ref c4)
  g5 : mg "NoSpeech" = some (.ref c5)
  g6 : mg "NotSure" = some (.ref c6)
  g7 : mg "NoWord" = some (.ref c7)
  g8 : mg "TooMany" = some (.ref c8)
  g9 : mg "NoParent" = some (.ref c9)
  g10 : mg "Taken" = some (.ref c10)
  g11 : mg "Full" = some (.ref c11)
  g12 : mg "NoDeed" = some (.ref c12)
  g13 : mg "NoText" = some (.ref c13)
  n_ValueError : mg "ValueError" = none
/-- D is the j-th of them, and a ValueError -/
structure IsJ (K : PySem.W.Frag) (mg : Str → Option Value) (C : Cls K mg) (D : Addr) (j : Nat) : Prop where
  ex : ExcC K D
  lt : j < 14
  k0 : PySem.W.kitOne K (.ref D) (.ref C.c0) = some (decide (j = 0))
  k1 : PySem.W.kitOne K (.ref D) (.ref C.c1) = some (decide (j = 1))
  k2 : PySem.W.kitOne K (.ref D) (.ref C.c2) = some (decide (j = 2))
  k3 : PySem.W.kitOne K (.ref D) (.ref C.c3) = some (decide (j = 3))
  k4 : PySem.W.kitOne K (.ref D) (.ref C.c4) = some (decide (j = 4))
  k5 : PySem.W.kitOne K (.ref D) (.ref C.c5) = some (decide (j = 5))
  k6 : PySem.W.kitOne K (.ref D) (.ref C.c6) = some (decide (j = 6))
  k7 : PySem.W.kitOne K (.ref D) (.ref C.c7) = some (decide (j = 7))
  k8 : PySem.W.kitOne K (.ref D) (.ref C.c8) = some (decide (j = 8))
  k9 : PySem.W.kitOne K (.ref D) (.ref C.c9) = some (decide (j = 9))
  k10 : PySem.W.kitOne K (.ref D) (.ref C.c10) = some (decide (j = 10))
  k11 : PySem.W.kitOne K (.ref D) (.ref C.c11) = some (decide (j = 11))
  k12 : PySem.W.kitOne K (.ref D) (.ref C.c12) = some (decide (j = 12))
  k13 : PySem.W.kitOne K (.ref D) (.ref C.c13) = some (decide (j = 13))
  kv : PySem.W.kitOne K (.ref D) (.type "ValueError") = some true
def own (j : Nat) : List V := [.bl (decide (j = 0)), .bl (decide (j = 1)), .bl (decide (j = 2)), .bl (decide (j = 3)), .bl (decide (j = 4)), .bl (decide (j = 5)), .bl (decide (j = 6)), .bl (decide (j = 7)), .bl (decide (j = 8)), .bl (decide (j = 9)), .bl (decide (j = 10)),
  .bl (decide (j = 11)), .bl (decide (j = 12)), .bl (decide (j = 13))]
theorem own_flat (j : Nat) : (own j).all flatV = true := rfl
theorem own_count : ∀ j : _root_.Fin 14, ((own j.val).countP fun z => eqV z (.bl true)) = 1 := by decide +kernel
theorem own_at : ∀ j : _root_.Fin 14, (own j.val)[j.val]? = some (.bl true) := by decide +kernel
theorem own_ahead : ∀ j m : _root_.Fin 14, m < j → (own j.val)[m.val]? = some (.bl false) := by decide +kernel
/-- the exception is told by its number -/
def sp_which (K : PySem.W.Frag) (mg : Str → Option Value) (C : Cls K mg) : Addr → Value → Sp := fun a c vs H Q _ => ∃ (D : Addr) (j : Nat), c = .ref D ∧ IsJ K mg C D j ∧ vs = [.ref a] ∧ ∀ H' t, Same H H' → H t = none → H' t = some (.tup [.str "refused", .int (j : Nat)]) → Q (.ref t) H'
section
variable {P : Program} {w : World} {K : PySem.W.Frag} {mg : Str → Option Value} {base : Heap}
theorem ok_which {f : Addr} {fd : FuncData} (C : Cls K mg) (ni : mg "isinstance" = none) (d : Df K mg "_law_which" s_law_which ["_law_e"] f fd) : FnP P w K mg base 1 f fd ["_law_e"] (sp_which K mg C) := by
  refine fn_ofP d.F sc_law_which (fun a c vs H Q E h => ?_) (fun cdv A outer s H vs Q E p c hc hr h => ?_)
  · obtain ⟨_, _, _, _, rfl, _⟩ := h
    rfl
  · obtain ⟨D, j, rfl, J, rfl, q⟩ := h
    have hp : p ∈ (L2H.cxH CX0 P w K mg base N_law_which "_law_which" (defScope s_law_which) f cdv A outer s H E p).pn := List.mem_cons_self
    have ii := call_isP (X := L2H.cxH CX0 P w K mg base N_law_which "_law_which" (defScope s_law_which) f cdv A outer s H E p) (D := D) (p := p) J.ex hp hc
    refine ⟨_, (pss_cons (ps_set (i := 1) sc_law_which.nd rfl (Or.inl rfl) (pe_lst (pa_cons (pe_callB ii (by rfl) ni boot_isinstance (pa_cons (pv 0) (pa_cons (pe_gR rfl C.g0) pa_nil))) (pa_cons (pe_callB ii (by rfl) ni boot_isinstance (pa_cons (pv 0) (pa_cons (pe_gR rfl C.g1) pa_nil))) (pa_cons (pe_callB ii (by rfl) ni boot_isinstance (pa_cons (pv 0) (pa_cons (pe_gR rfl C.g2) pa_nil))) (pa_cons (pe_callB ii (by rfl) ni boot_isinstance (pa_cons (pv 0) (pa_cons (pe_gR rfl C.g3) pa_nil))) pa_nil))))))
      (pss_cons (ps_expr (pe_bm PySem.F.plainAttrs_list PySem.F.slot_list_extend PySem.F.type_list_extend mt_extend (pv 1) (pa_cons (pe_lst (pa_cons (pe_callB ii (by rfl) ni boot_isinstance (pa_cons (pv 0) (pa_cons (pe_gR rfl C.g4) pa_nil))) (pa_cons (pe_callB ii (by rfl) ni boot_isinstance (pa_cons (pv 0) (pa_cons (pe_gR rfl C.g5) pa_nil))) (pa_cons (pe_callB ii (by rfl) ni boot_isinstance (pa_cons (pv 0) (pa_cons (pe_gR rfl C.g6) pa_nil))) pa_nil)))) pa_nil)))
      (pss_cons (ps_expr (pe_bm PySem.F.plainAttrs_list PySem.F.slot_list_extend PySem.F.type_list_extend mt_extend (pv 1) (pa_cons (pe_lst (pa_cons (pe_callB ii (by rfl) ni boot_isinstance (pa_cons (pv 0) (pa_cons (pe_gR rfl C.g7) pa_nil))) pa_nil)) pa_nil)))
      (pss_cons (ps_expr (pe_bm PySem.F.plainAttrs_list PySem.F.slot_list_extend PySem.F.type_list_extend mt_extend (pv 1) (pa_cons (pe_lst (pa_cons (pe_callB ii (by rfl) ni boot_isinstance (pa_cons (pv 0) (pa_cons (pe_gR rfl C.g8) pa_nil))) (pa_cons (pe_callB ii (by rfl) ni boot_isinstance (pa_cons (pv 0) (pa_cons (pe_gR rfl C.g9) pa_nil))) (pa_cons (pe_callB ii (by rfl) ni boot_isinstance (pa_cons (pv 0) (pa_cons (pe_gR rfl C.g10) pa_nil))) pa_nil)))) pa_nil)))
      (pss_cons (ps_expr (pe_bm PySem.F.plainAttrs_list PySem.F.slot_list_extend PySem.F.type_list_extend mt_extend (pv 1) (pa_cons (pe_lst (pa_cons (pe_callB ii (by rfl) ni boot_isinstance (pa_cons (pv 0) (pa_cons (pe_gR rfl C.g11) pa_nil))) pa_nil)) pa_nil)))
      (pss_cons (ps_expr (pe_bm PySem.F.plainAttrs_list PySem.F.slot_list_extend PySem.F.type_list_extend mt_extend (pv 1) (pa_cons (pe_lst (pa_cons (pe_callB ii (by rfl) ni boot_isinstance (pa_cons (pv 0) (pa_cons (pe_gR rfl C.g12) pa_nil))) (pa_cons (pe_callB ii (by rfl) ni boot_isinstance (pa_cons (pv 0) (pa_cons (pe_gR rfl C.g13) pa_nil))) pa_nil))) pa_nil)))
      (pss_cons (ps_if (PW.pt (pw_or (pt_cmpR op_ne (pe_bm PySem.F.plainAttrs_list PySem.F.slot_list_count PySem.F.type_list_count mt_countF (pv 1) (pa_cons pe_bl pa_nil)) pe_int (nomark _)) (pw_or1 (pt_not (pt_val (pe_callB ii (by rfl) ni boot_isinstance (pa_cons (pv 0) (pa_cons (pe_bltn (v := .ty "ValueError") (by rfl) C.n_ValueError b_ValueError rfl) pa_nil))))))))
        (pss_one (ps_ret (pe_tup (pa_cons pe_str (pa_cons (pe_un un_neg pe_int) pa_nil)))))
        pss_nil)
      (pss_one (ps_ret (pe_tup (pa_cons pe_str (pa_cons (pe_bm PySem.F.plainAttrs_list PySem.F.slot_list_index PySem.F.type_list_index mt_index (pv 1) (pa_cons pe_bl pa_nil)) pa_nil)))))))))))), ?_⟩
    have rr : ∀ {a : Addr} (u : Value), L2.RelV (V.ref a) u → u = Value.ref a := fun _ r => r
    refine ⟨_, rfl, _, _, _, rfl, rr, J.k0, _, rfl, _, _, _, rfl, rr, J.k1, _, rfl, _, _, _, rfl, rr, J.k2, _, rfl, _, _, _, rfl, rr, J.k3, (by show 4 ≤ sizeLine; decide), fun l nl => ?_⟩
    have e0 : (upd H l (.lst [.bl (decide (j = 0)), .bl (decide (j = 1)), .bl (decide (j = 2)), .bl (decide (j = 3))])) l = some (.lst [.bl (decide (j = 0)), .bl (decide (j = 1)), .bl (decide (j = 2)), .bl (decide (j = 3))]) := upd_same
    have s0 : Same H (upd H l (.lst [.bl (decide (j = 0)), .bl (decide (j = 1)), .bl (decide (j = 2)), .bl (decide (j = 3))])) := same_upd nl
    refine ⟨_, rfl, .inl ⟨rfl, _, .inl (.inl e0)⟩, _, rfl, _, _, _, rfl, rr, J.k4, _, rfl, _, _, _, rfl, rr, J.k5, _, rfl, _, _, _, rfl, rr, J.k6, (by show 3 ≤ sizeLine; decide), fun b1 n1 => ?_⟩
    dsimp only [tNil]
    refine ext_step s0 nl e0 n1 ?_ fun H1 s1 e1 => ?_
    · show 4 + 3 ≤ sizeLine
      decide
    refine ⟨_, rfl, .inl ⟨rfl, _, .inl (.inl e1)⟩, _, rfl, _, _, _, rfl, rr, J.k7, (by show 1 ≤ sizeLine; decide), fun b2 n2 => ?_⟩
    dsimp only [tNil]
    refine ext_step s1 nl e1 n2 ?_ fun H2 s2 e2 => ?_
    · show 7 + 1 ≤ sizeLine
      decide
    refine ⟨_, rfl, .inl ⟨rfl, _, .inl (.inl e2)⟩, _, rfl, _, _, _, rfl, rr, J.k8, _, rfl, _, _, _, rfl, rr, J.k9, _, rfl, _, _, _, rfl, rr, J.k10, (by show 3 ≤ sizeLine; decide), fun b3 n3 => ?_⟩
    dsimp only [tNil]
    refine ext_step s2 nl e2 n3 ?_ fun H3 s3 e3 => ?_
    · show 8 + 3 ≤ sizeLine
      decide
    refine ⟨_, rfl, .inl ⟨rfl, _, .inl (.inl e3)⟩, _, rfl, _, _, _, rfl, rr, J.k11, (by show 1 ≤ sizeLine; decide), fun b4 n4 => ?_⟩
    dsimp only [tNil]
    refine ext_step s3 nl e3 n4 ?_ fun H4 s4 e4 => ?_
    · show 11 + 1 ≤ sizeLine
      decide
    refine ⟨_, rfl, .inl ⟨rfl, _, .inl (.inl e4)⟩, _, rfl, _, _, _, rfl, rr, J.k12, _, rfl, _, _, _, rfl, rr, J.k13, (by show 2 ≤ sizeLine; decide), fun b5 n5 => ?_⟩
    dsimp only [tNil]
    refine ext_step s4 nl e4 n5 ?_ fun H5 s5 e5 => ?_
    · show 12 + 2 ≤ sizeLine
      decide
    have e6 : H5 l = some (.lst (own j)) := e5
    have hL : SqL K H5 l (own j) := .inl (.inl e6)
    refine ⟨_, rfl, .inl ⟨rfl, _, hL⟩, l, _, _, rfl, rfl, hL, rfl, own_flat j, rfl, ?_⟩
    have hc1 := own_count ⟨j, J.lt⟩
    rw [hc1]
    refine ⟨_, rfl, ?_⟩
    refine iteF ?_
    refine ⟨_, rfl, _, _, _, rfl, (fun _ r => r), J.kv, _, rfl, ?_⟩
    refine iteF ?_
    refine ⟨_, rfl, .inl ⟨rfl, _, hL⟩, l, _, _, j, .bl true, rfl, rfl, hL, rfl, own_flat j, own_at ⟨j, J.lt⟩, rfl, fun m z hm hz => ?_, (by show 2 ≤ sizeLine; decide), fun t nt => ?_⟩
    · have := own_ahead ⟨j, J.lt⟩ ⟨m, Nat.lt_trans hm J.lt⟩ hm
      rw [this] at hz
      cases hz
      rfl
    · exact q _ t (s5.trans (same_upd nt)) (s5.free nt) upd_same
end
end K05

set_option maxHeartbeats 2000000
namespace K05
open PySem PySem.Spec PyProof.Rows L2 Kin
abbrev s_law_ask : Stmt := top 44
abbrev N_law_ask : List Str := ["_law_what", "_law_sex", "_law_row", "_law_e"]
theorem sc_law_ask : FnScope N_law_ask ["_law_what", "_law_sex", "_law_row"] (defScope s_law_ask) := ⟨rfl, rfl, rfl, by decide +kernel, rfl, by decide +kernel, by decide +kernel⟩
/-- a call of sex and row: what is refused, else R -/
def sp_step (K : PySem.W.Frag) (CS CR : Addr) (R : Bool → List Nat → Hp → VK → XK → Prop) : Sp := fun vs H Q E => ∃ x y, vs = [x, y] ∧ In K H x ∧ In K H y ∧ (sexV x = false → E (.ref CS) none H) ∧ (sexV x = true → rowV y = false → ∀ H', Same H H' → E (.ref CR) none H') ∧
  (∀ b r, x = .str (sexC b) → y = .str (rowS r) → rowV y = true → R b r H Q E)
def R_straight (b : Bool) (r : List Nat) (H : Hp) (Q : VK) (_ : XK) : Prop := ∀ H', Same H H' → Q (.bl (straight b r)) H'
def turnS (b : Bool) (r : List Nat) : Str := ⟨((List.range r.length).reverse.flatMap fun i => (backC ((along b r).getD i false) (r.getD i 0)).cps.toList).toArray⟩
def R_turned (b : Bool) (r : List Nat) (H : Hp) (Q : VK) (_ : XK) : Prop := ∀ H', Same H H' → Q (.str (turnS b r)) H'
def R_chain (CR : Addr) (b : Bool) (r : List Nat) (H : Hp) (Q : VK) (E : XK) : Prop := (straight b r = false → ∀ H', Same H H' → E (.ref CR) none H') ∧
  (straight b r = true → ∀ H' t f x y xs, Same H H' → H' t = some (.tup [.ref f, x, y]) → H' f = some (.tup xs) → xs.length = r.length + 1 → Q (.ref t) H')
def R_of (CR : Addr) : Nat → Bool → List Nat → Hp → VK → XK → Prop
  | 0 => R_straight
  | 1 => R_chain CR
  | _ => R_turned
/-- told is the refusal of that number -/
def Refd (H : Hp) (Q : VK) (j : Nat) : Prop := ∀ H' t, Same H H' → H' t = some (.tup [.str "refused", .int (j : Nat)]) → Q (.ref t) H'
def R_ask : Nat → Bool → List Nat → Hp → VK → Prop
  | 0 => fun b r H Q => R_straight b r H Q E0
  | 1 => fun b r H Q => (straight b r = false → Refd H Q 4) ∧ (straight b r = true → ∀ H' t f x y xs, Same H H' → H' t = some (.tup [.ref f, x, y]) → H' f = some (.tup xs) → xs.length = r.length + 1 → Q (.ref t) H')
  | _ => fun b r H Q => R_turned b r H Q E0
def sp_ask (K : PySem.W.Frag) : Sp := fun vs H Q _ => ∃ (k : Nat) (x y : V), vs = [.int (k : Nat), x, y] ∧ k < 3 ∧ In K H x ∧ In K H y ∧ (sexV x = false → Refd H Q 3) ∧ (sexV x = true → rowV y = false → Refd H Q 4) ∧
  (∀ b r, x = .str (sexC b) → y = .str (rowS r) → rowV y = true → R_ask k b r H Q)
/-- what stands behind the three names -/
structure Three (P : Program) (w : World) (K : PySem.W.Frag) (mg : Str → Option Value) (base : Heap) (CS CR : Addr) where
  a0 : Addr
  a1 : Addr
  a2 : Addr
  g0 : mg "is_straight" = some (.ref a0)
  g1 : mg "chain" = some (.ref a1)
  g2 : mg "turned" = some (.ref a2)
  h0 : HeldX P w K mg base (L2.CX P w) 5 a0 (sp_step K CS CR R_straight)
  h1 : HeldX P w K mg base (L2.CX P w) 5 a1 (sp_step K CS CR (R_chain CR))
  h2 : HeldX P w K mg base (L2.CX P w) 5 a2 (sp_step K CS CR R_turned)
theorem In.mono {K : PySem.W.Frag} {H H' : Hp} {x : V} (s : Same H H') (i : In K H x) : In K H' x := by
  refine ⟨?_, i.sm⟩
  obtain ⟨n, ty, kb⟩ := i.th
  refine ⟨n, ?_, kb⟩
  cases ty with
  | base t =>
    generalize hn : Value.type n = tv at t
    cases t with
    | non => cases hn; exact .base .non
    | bl b => cases hn; exact .base (.bl b)
    | int z => cases hn; exact .base (.int z)
    | str z => cases hn; exact .base (.str z)
    | flt z => cases hn; exact .base (.flt z)
    | lst e => cases hn; exact .base (.lst (s _ _ e))
    | frz e => cases hn; exact .base (.frz (s _ _ e))
    | tup e => cases hn; exact .base (.tup (s _ _ e))
    | dK e => cases hn; exact .base (.dK (s _ _ e))
    | dT e => cases hn; exact .base (.dT (s _ _ e))
    | ins e a b c d f => cases hn
  | byt b => exact .byt b
  | set e => exact .set (s _ _ e)
  | kList e c => exact .kList e c
  | kTuple e c => exact .kTuple e c
  | kDict e c => exact .kDict e c
  | fTuple e => exact .fTuple (s _ _ e)
  | fDict e => exact .fDict (s _ _ e)
section
variable {P : Program} {w : World} {K : PySem.W.Frag} {mg : Str → Option Value} {base : Heap}
theorem ok_ask {f fw aK CS CR : Addr} {fd fdw : FuncData} (Th : Three P w K mg base CS CR) (C : Cls K mg) (JS : IsJ K mg C CS 3) (JR : IsJ K mg C CR 4) (ni : mg "isinstance" = none) (gK : mg "KinError" = some (.ref aK)) (eS : PySem.W.exmOne K (.ref CS) (.ref aK) = some true)
    (eR : PySem.W.exmOne K (.ref CR) (.ref aK) = some true) (dw : Df K mg "_law_which" s_law_which ["_law_e"] fw fdw)
    (d : Df K mg "_law_ask" s_law_ask ["_law_what", "_law_sex", "_law_row"] f fd) : FnOk P w K mg base CX0 6 f fd ["_law_what", "_law_sex", "_law_row"] (sp_ask K) := by
  have GW : FnP P w K mg base 1 fw fdw ["_law_e"] (sp_which K mg C) := ok_which C ni dw
  refine d.F.ok sc_law_ask (fun vs H Q E h => ?_) (fun cdv A outer s H vs Q E hr h => ?_)
  · obtain ⟨_, _, _, rfl, _⟩ := h
    rfl
  · obtain ⟨k, x, y, rfl, hk, hx, hy, q1, q2, q3⟩ := h
    have hS : ∀ f sp, ((f = Th.a0 ∧ sp = sp_step K CS CR R_straight) ∨ (f = Th.a1 ∧ sp = sp_step K CS CR (R_chain CR)) ∨ (f = Th.a2 ∧ sp = sp_step K CS CR R_turned)) → HeldX P w K mg base (L2.CX P w) 5 f sp := by
      rintro f sp (⟨rfl, rfl⟩ | ⟨rfl, rfl⟩ | ⟨rfl, rfl⟩)
      · exact Th.h0
      · exact Th.h1
      · exact Th.h2
    refine ⟨_, (pss_one (ps_try_as (i := 3) rfl rfl sc_law_ask.nd rfl rfl ⟨rfl, by decide, .inl gK⟩ takes0 (fun W pn xe tk _ =>
        (pss_one (ps_ret (pe_callX hS hr (fun σ => passAt tk σ) (pe_ix (r := rIxL K) ix_list (pe_lst (pa_cons (pe_gR rfl Th.g0) (pa_cons (pe_gR rfl Th.g1) (pa_cons (pe_gR rfl Th.g2) pa_nil)))) (pv 0) (fun _ _ => rfl)) (pa_cons (pv 1) (pa_cons (pv 2) pa_nil)))))) (fun a oe cls d pn hz hf =>
        (pss_one (ps_ret (pe_callP GW (show L2H.RoomH 1 _ from ⟨(hr.mono (j := 1) (by decide)).dp, (hr.mono (j := 1) (by decide)).un⟩) List.mem_cons_self hz hf rfl dw.g dw.F.kp dw.b (pa_cons (pv 3) pa_nil))))))), ?_⟩
    refine ⟨by show 3 ≤ sizeLine; decide, fun l nl => ?_⟩
    have sl := same_upd (o := .lst [.ref Th.a0, .ref Th.a1, .ref Th.a2]) nl
    have el := upd_same (H := H) (a := l) (o := .lst [.ref Th.a0, .ref Th.a1, .ref Th.a2])
    refine ⟨_, rfl, l, _, k, [V.ref Th.a0, V.ref Th.a1, V.ref Th.a2].getD k .non, rfl, rfl, .inl (.inl el), atI_nat (getD_some (by show k < 3; exact hk)), ?_⟩
    generalize upd H l (.lst [.ref Th.a0, .ref Th.a1, .ref Th.a2]) = H0 at sl el ⊢
    have catch_ : ∀ {D : Addr} {j : Nat} {H1 : Hp}, IsJ K mg C D j → PySem.W.exmOne K (.ref D) (.ref aK) = some true → Same H0 H1 → Refd H Q j →
        WE (wAs K (.ref aK) 3 (fun a cls d => tRet (tCallP a cls d (sp_which K mg C) (tCons (tVar 3) tNil))) (fun _ _ _ _ => False) { nx := fun _ H' => Q .non H', rt := Q }) (L2.start N_law_ask [V.int (k : Nat), x, y]) (.ref D) none H1 := by
      intro D j H1 JD eD s1 hq
      refine ⟨true, eD, fun _ a ha => ?_, fun z => Bool.noConfusion z⟩
      exact ⟨rfl, _, rfl, D, j, rfl, JD, rfl, fun H' t s2 _ e => hq H' t (sl.trans (s1.trans s2)) e⟩
    have hx0 := In.mono sl hx
    have hy0 := In.mono sl hy
    match k, hk, q3 with
    | 0, _, q3 =>
      refine ⟨Th.a0, _, rfl, .inl ⟨rfl, rfl⟩, _, rfl, _, rfl, x, y, rfl, hx0, hy0, fun e => catch_ JS eS (Same.refl _) (q1 e), fun e1 e2 H1 s1 => catch_ JR eR s1 (q2 e1 e2), fun b r ex ey er => ?_⟩
      exact fun H1 s1 => q3 b r ex ey er H1 (sl.trans s1)
    | 1, _, q3 =>
      refine ⟨Th.a1, _, rfl, .inr (.inl ⟨rfl, rfl⟩), _, rfl, _, rfl, x, y, rfl, hx0, hy0, fun e => catch_ JS eS (Same.refl _) (q1 e), fun e1 e2 H1 s1 => catch_ JR eR s1 (q2 e1 e2), fun b r ex ey er => ?_⟩
      obtain ⟨z1, z2⟩ := q3 b r ex ey er
      exact ⟨fun e H1 s1 => catch_ JR eR s1 (z1 e), fun e H1 t f u v xs s1 => z2 e H1 t f u v xs (sl.trans s1)⟩
    | 2, _, q3 =>
      refine ⟨Th.a2, _, rfl, .inr (.inr ⟨rfl, rfl⟩), _, rfl, _, rfl, x, y, rfl, hx0, hy0, fun e => catch_ JS eS (Same.refl _) (q1 e), fun e1 e2 H1 s1 => catch_ JR eR s1 (q2 e1 e2), fun b r ex ey er => ?_⟩
      exact fun H1 s1 => q3 b r ex ey er H1 (sl.trans s1)
end
end K05

set_option maxHeartbeats 4000000
namespace K05
open PySem PySem.Spec PyProof.Rows L2 Kin
abbrev s_law : Stmt := top 45
abbrev N_law : List Str := ["_law_script", "_law_town", "_law_row", "_law_what", "_law_kinds", "_law_sex", "_law_bad"]
theorem sc_law : FnScope N_law ["_law_script"] (defScope s_law) := ⟨rfl, rfl, rfl, by decide +kernel, rfl, by decide +kernel, by decide +kernel⟩
/-! ### the written things -/
theorem in_non {K : PySem.W.Frag} {H : Hp} : In K H .non := ⟨th_non, fun _ e => nomatch e⟩
theorem in_int {K : PySem.W.Frag} {H : Hp} {i : Int} : In K H (.int i) := ⟨th_int, fun _ e => nomatch e⟩
theorem in_str {K : PySem.W.Frag} {H : Hp} {z : Str} (h : z.length ≤ 1000) : In K H (.str z) := ⟨th_str, fun _ e => by cases e; exact h⟩
theorem in_lst {K : PySem.W.Frag} {H : Hp} {a : Addr} {xs : List V} (h : H a = some (.lst xs)) : In K H (.ref a) := ⟨th_lst h, fun _ e => nomatch e⟩
theorem in_tup {K : PySem.W.Frag} {H : Hp} {a : Addr} {xs : List V} (h : H a = some (.tup xs)) : In K H (.ref a) := ⟨th_tup h, fun _ e => nomatch e⟩
def sexes (l t : Addr) : List V := [.non, .str "", .str "it", .str "He", .int 5, .ref l, .ref t, .str "heshe", .str "h"]
theorem sexes_in {K : PySem.W.Frag} {H : Hp} {l t : Addr} {xs ys : List V} (hl : H l = some (.lst xs)) (ht : H t = some (.tup ys)) {x : V} (h : x ∈ sexes l t) : In K H x ∧ sexV x = false := by
  simp only [sexes, List.mem_cons, List.not_mem_nil, or_false] at h
  rcases h with rfl | rfl | rfl | rfl | rfl | rfl | rfl | rfl | rfl
  · exact ⟨in_non, rfl⟩
  · exact ⟨in_str (by decide +kernel), by decide +kernel⟩
  · exact ⟨in_str (by decide +kernel), by decide +kernel⟩
  · exact ⟨in_str (by decide +kernel), by decide +kernel⟩
  · exact ⟨in_int, rfl⟩
  · exact ⟨in_lst hl, rfl⟩
  · exact ⟨in_tup ht, rfl⟩
  · exact ⟨in_str (by decide +kernel), by decide +kernel⟩
  · exact ⟨in_str (by decide +kernel), by decide +kernel⟩
def bads (l t : Addr) : List V := [.non, .str "x", .str "F", .str "f s", .int 5, .ref l, .ref t, .str (strRep "f" 61), .str "fmsdx"]
theorem bads_in {K : PySem.W.Frag} {H : Hp} {l t : Addr} {xs ys : List V} (hl : H l = some (.lst xs)) (ht : H t = some (.tup ys)) {x : V} (h : x ∈ bads l t) : In K H x ∧ rowV x = false := by
  simp only [bads, List.mem_cons, List.not_mem_nil, or_false] at h
  rcases h with rfl | rfl | rfl | rfl | rfl | rfl | rfl | rfl | rfl
  · exact ⟨in_non, rfl⟩
  · exact ⟨in_str (by decide +kernel), by decide +kernel⟩
  · exact ⟨in_str (by decide +kernel), by decide +kernel⟩
  · exact ⟨in_str (by decide +kernel), by decide +kernel⟩
  · exact ⟨in_int, rfl⟩
  · exact ⟨in_lst hl, rfl⟩
  · exact ⟨in_tup ht, rfl⟩
  · exact ⟨in_str (by decide +kernel), by decide +kernel⟩
  · exact ⟨in_str (by decide +kernel), by decide +kernel⟩
def fives : List V := [.str "", .str "f", .str "fs", .str "msd", .str "dm"]
theorem fives_in {x : V} (h : x ∈ fives) : ∃ z : Str, x = .str z ∧ z.length ≤ 1000 := by
  simp only [fives, List.mem_cons, List.not_mem_nil, or_false] at h
  rcases h with rfl | rfl | rfl | rfl | rfl
  all_goals exact ⟨_, rfl, by decide +kernel⟩
theorem sexC_len : ∀ c : Bool, (sexC c).length ≤ 1000 := by decide +kernel
theorem sexC_inj : ∀ {b c : Bool}, sexC b = sexC c → b = c
  | true, true, _ => rfl
  | false, false, _ => rfl
  | true, false, h => absurd h (by decide +kernel)
  | false, true, h => absurd h (by decide +kernel)
theorem rowS_inj {r q : List Nat} (h : rowS r = rowS q) : r = q := by
  have := congrArg (fun z : Str => z.cps.toList) h
  simpa using this
/-- the refusal's data -/
theorem dp_ref {K : PySem.W.Frag} {H : Hp} {t : Addr} {j : Nat} (h : H t = some (.tup [.str "refused", .int (j : Nat)])) : Dp K H (.ref t) (.tuple [.str "refused", .int (j : Nat)]) := .tup (.inl (.inl h)) (.cons (.str _) (.cons (.int _) .nil))
def spLaw (K : PySem.W.Frag) : Sp := fun vs H Q _ => ∃ (a : Addr) (ns : List Int), vs = [.ref a] ∧ SqL K H a (ns.map V.int) ∧ ns.length ≤ 63 ∧ ∀ H', Q (.bl true) H'
section
variable {P : Program} {w : World} {K : PySem.W.Frag} {mg : Str → Option Value} {base : Heap}
structure LawT (K : PySem.W.Frag) (mg : Str → Option Value) extends Txt3 K mg where
  a_law_ask : Addr
  f_law_ask : FuncData
  d_law_ask : Df K mg "_law_ask" s_law_ask ["_law_what", "_law_sex", "_law_row"] a_law_ask f_law_ask
theorem ok_law {f : Addr} {fd : FuncData} (T : LawT K mg) (G_law_ask : FnOk P w K mg base CX0 6 T.a_law_ask T.f_law_ask ["_law_what", "_law_sex", "_law_row"] (sp_ask K)) (F : Fun K "law" "law" s_law f fd) :
    FnOk P w K mg base CX0 7 f fd ["_law_script"] (spLaw K) := by
  have G_law_pick : FnOk P w K mg base CX0 2 T.a_law_pick T.f_law_pick ["_law_script", "_law_town", "_law_some"] (sp_pick K) := ok_pick T.toTxt3
  refine F.ok sc_law (fun vs H Q E h => ?_) (fun cdv A outer s H vs Q E hr h => ?_)
  · obtain ⟨a, ns, rfl, _⟩ := h
    rfl
  · obtain ⟨a, ns, rfl, hS, hlen, q⟩ := h
    refine ⟨_, (pss_cons (ps_set (i := 1) sc_law.nd rfl (Or.inl rfl) (pe_lst (pa_cons pe_int (pa_cons pe_int pa_nil))))
      (pss_cons (ps_set (i := 2) sc_law.nd rfl (Or.inl rfl) (pe_call G_law_pick (hr.mono (by decide)) rfl T.d_law_pick.g T.d_law_pick.F.kp T.d_law_pick.b .nil pass0 (pa_cons (pv 0) (pa_cons (pv 1) (pa_cons (pe_lst (pa_cons pe_str (pa_cons pe_str (pa_cons pe_str (pa_cons pe_str (pa_cons pe_str pa_nil)))))) pa_nil)))))
      (pss_cons (ps_for PassesOwn.never rfl (pi_range1 (by rfl) T.n_range (pa_cons pe_int pa_nil)) (pg_name (i := 3) sc_law.nd rfl (Or.inl rfl))
        (pss_cons (ps_for PassesOwn.never rfl (pi_tup (pe_tup (pa_cons pe_non (pa_cons pe_str (pa_cons pe_str (pa_cons pe_str (pa_cons pe_int (pa_cons (pe_lst (pa_cons pe_str pa_nil)) (pa_cons (pe_tup (pa_cons pe_str pa_nil)) (pa_cons pe_str (pa_cons pe_str pa_nil))))))))))) (pg_name (i := 5) sc_law.nd rfl (Or.inl rfl))
          (pss_one (ps_if (pt_cmpR (op_neD hr.units) (pe_call G_law_ask (hr.mono (by decide)) rfl T.d_law_ask.g T.d_law_ask.F.kp T.d_law_ask.b .nil pass0 (pa_cons (pv 3) (pa_cons (pv 5) (pa_cons (pe_call G_law_pick (hr.mono (by decide)) rfl T.d_law_pick.g T.d_law_pick.F.kp T.d_law_pick.b .nil pass0 (pa_cons (pv 0) (pa_cons (pv 1) (pa_cons (pe_lst (pa_cons (pv 2) (pa_cons pe_non pa_nil))) pa_nil)))) pa_nil)))) (pe_tup (pa_cons pe_str (pa_cons pe_int pa_nil))) (nomark _))
            (pss_one (ps_ret pe_bl))
            pss_nil)))
        (pss_one (ps_for PassesOwn.never rfl (pi_tup (pe_tup (pa_cons pe_non (pa_cons pe_str (pa_cons pe_str (pa_cons pe_str (pa_cons pe_int (pa_cons (pe_lst (pa_cons pe_str pa_nil)) (pa_cons (pe_tup (pa_cons pe_str pa_nil)) (pa_cons (pe_op op_mulS pe_str pe_int) (pa_cons pe_str pa_nil))))))))))) (pg_name (i := 6) sc_law.nd rfl (Or.inl rfl))
          (pss_one (ps_if (pt_cmpR (op_neD hr.units) (pe_call G_law_ask (hr.mono (by decide)) rfl T.d_law_ask.g T.d_law_ask.F.kp T.d_law_ask.b .nil pass0 (pa_cons (pv 3) (pa_cons pe_str (pa_cons (pv 6) pa_nil)))) (pe_tup (pa_cons pe_str (pa_cons pe_int pa_nil))) (nomark _))
            (pss_one (ps_ret pe_bl))
            pss_nil))))))
      (pss_cons (ps_set (i := 4) sc_law.nd rfl (Or.inl rfl) (pe_lst (pa_cons (pe_tup (pa_cons pe_str (pa_cons pe_str pa_nil))) (pa_cons (pe_tup (pa_cons pe_str (pa_cons pe_str pa_nil))) (pa_cons (pe_tup (pa_cons pe_str (pa_cons pe_str pa_nil))) (pa_cons (pe_tup (pa_cons pe_str (pa_cons pe_str pa_nil))) (pa_cons (pe_tup (pa_cons pe_str (pa_cons pe_str pa_nil))) pa_nil)))))))
      (pss_cons (ps_expr (pe_bm PySem.F.plainAttrs_list PySem.F.slot_list_extend PySem.F.type_list_extend mt_extend (pv 4) (pa_cons (pe_lst (pa_cons (pe_tup (pa_cons pe_str (pa_cons pe_str pa_nil))) pa_nil)) pa_nil)))
      (pss_cons (ps_for PassesOwn.never rfl (pi_list (pv 4)) (pg_tup rfl (pgs_cons (pg_name (i := 5) sc_law.nd rfl (Or.inl rfl)) (pgs_cons (pg_name (i := 6) sc_law.nd rfl (Or.inl rfl)) pgs_nil)))
        (pss_one (ps_if (PW.pt (pw_or (pt_cmpR op_notBl (pe_call G_law_ask (hr.mono (by decide)) rfl T.d_law_ask.g T.d_law_ask.F.kp T.d_law_ask.b .nil pass0 (pa_cons pe_int (pa_cons (pv 5) (pa_cons (pv 6) pa_nil)))) pe_bl (nomark _)) (pw_or1 (pt_cmpR (op_neD hr.units) (pe_call G_law_ask (hr.mono (by decide)) rfl T.d_law_ask.g T.d_law_ask.F.kp T.d_law_ask.b .nil pass0 (pa_cons pe_int (pa_cons (pv 5) (pa_cons (pv 6) pa_nil)))) (pe_tup (pa_cons pe_str (pa_cons pe_int pa_nil))) (nomark _)))))
          (pss_one (ps_ret pe_bl))
          pss_nil)))
      (pss_cons (ps_if (PW.pt (pw_or (pt_cmpR op_notBl (pe_call G_law_ask (hr.mono (by decide)) rfl T.d_law_ask.g T.d_law_ask.F.kp T.d_law_ask.b .nil pass0 (pa_cons pe_int (pa_cons pe_str (pa_cons (pe_op op_mulS pe_str pe_int) pa_nil)))) pe_bl (nomark _)) (pw_or1 (pt_cmpR op_ne (pe_callB call_len_seq (by rfl) T.n_len boot_len (pa_cons (pe_ix ix_tup (pe_call G_law_ask (hr.mono (by decide)) rfl T.d_law_ask.g T.d_law_ask.F.kp T.d_law_ask.b .nil pass0 (pa_cons pe_int (pa_cons pe_str (pa_cons (pe_op op_mulS pe_str pe_int) pa_nil)))) pe_int (fun _ _ => rfl)) pa_nil)) pe_int (nomark _)))))
        (pss_one (ps_ret pe_bl))
        pss_nil)
      (pss_one (ps_ret (pe_and (pe_cmpR op_eq (pe_call G_law_ask (hr.mono (by decide)) rfl T.d_law_ask.g T.d_law_ask.F.kp T.d_law_ask.b .nil pass0 (pa_cons pe_int (pa_cons pe_str (pa_cons (pe_op op_mulS pe_str pe_int) pa_nil)))) (pe_op op_mulS pe_str pe_int) (nomark _)) (pe_one (pe_cmpR op_eq (pe_call G_law_ask (hr.mono (by decide)) rfl T.d_law_ask.g T.d_law_ask.F.kp T.d_law_ask.b .nil pass0 (pa_cons pe_int (pa_cons pe_str (pa_cons pe_str pa_nil)))) pe_str (nomark _))))))))))))), ?_⟩
    -- town = [0, 0]
    refine ⟨by show 2 ≤ sizeLine; decide, fun p np => ?_⟩
    have hT1 : TownAt (upd H p (.lst [V.int 0, V.int 0])) p := ⟨0, 0, by decide, upd_same⟩
    have hB1 : Stb K (upd H p (.lst [V.int 0, V.int 0])) p a (ns.map V.int) := stb_new hS np
    clear hS np
    generalize upd H p (.lst [V.int 0, V.int 0]) = H1 at hT1 hB1 ⊢
    -- row = pick(..)
    refine ⟨_, rfl, _, rfl, by show 5 ≤ sizeLine; decide, fun l nl => ?_⟩
    have b1 := (same_upd (o := .lst fives) nl).but (p := p)
    refine ⟨a, p, l, ns, fives, rfl, hB1.mono b1, hlen, hT1.but (same_upd nl), .inl (.inl upd_same), (hT1.lt nl).symm, by decide, by decide, fun H2 x hx hT2 b2 => ?_⟩
    obtain ⟨z, rfl, hz⟩ := fives_in hx
    have hB2 : Stb K H2 p a (ns.map V.int) := hB1.mono (b1.trans b2)
    clear hx b1 b2 hB1 hT1 nl
    -- for what in range(3)
    refine ⟨3, rfl, by decide, by decide, ?_⟩
    refine for_range (n := 3) (fun i σ H3 => ∃ x3 x4 x5 x6, σ = [some (.ref a), some (.ref p), some (.str z), x3, x4, x5, x6] ∧ TownAt H3 p ∧ SameBut p H2 H3) ⟨_, _, _, _, rfl, hT2, SameBut.refl p H2⟩ ?_ ?_
    · rintro i σ H3 hi ⟨x3, x4, x5, x6, rfl, hT3, b3⟩
      have e0 : V.int (0 + (i : Int)) = V.int ((i : Nat) : Int) := by rw [Int.zero_add]
      rw [e0]
      have hB3 := hB2.mono b3
      -- the sexes
      refine ⟨by show 1 ≤ sizeLine; decide, fun l nl => ?_⟩
      refine ⟨by show 1 ≤ sizeLine; decide, fun t nt => ?_⟩
      refine ⟨by show 9 ≤ sizeLine; decide, fun T' nT => ?_⟩
      have c1 := same_upd (o := .lst [V.str "he"]) nl
      have c2 := c1.trans (same_upd (o := .tup [V.str "she"]) nt)
      have c3 := c2.trans (same_upd (o := .tup [V.non, V.str "", V.str "it", V.str "He", V.int 5, V.ref l, V.ref t, V.str "heshe", V.str "h"]) nT)
      have hl4 : (upd (upd (upd H3 l (.lst [V.str "he"])) t (.tup [V.str "she"])) T' (.tup [V.non, V.str "", V.str "it", V.str "He", V.int 5, V.ref l, V.ref t, V.str "heshe", V.str "h"])) l = some (.lst [V.str "he"]) := same_upd nT _ _ (same_upd nt _ _ upd_same)
      have ht4 : (upd (upd (upd H3 l (.lst [V.str "he"])) t (.tup [V.str "she"])) T' (.tup [V.non, V.str "", V.str "it", V.str "He", V.int 5, V.ref l, V.ref t, V.str "heshe", V.str "h"])) t = some (.tup [V.str "she"]) := same_upd nT _ _ upd_same
      have hT4 : (upd (upd (upd H3 l (.lst [V.str "he"])) t (.tup [V.str "she"])) T' (.tup [V.non, V.str "", V.str "it", V.str "He", V.int 5, V.ref l, V.ref t, V.str "heshe", V.str "h"])) T' = some (.tup (sexes l t)) := upd_same
      have nlp : l ≠ p := (hT3.lt nl).symm
      have ntp : t ≠ p := ((hT3.but c1).lt nt).symm
      have nTp : T' ≠ p := ((hT3.but c2).lt nT).symm
      have hW4 := hT3.but c3
      have b4 := b3.trans (c3.but (p := p))
      generalize hH4 : upd (upd (upd H3 l (.lst [V.str "he"])) t (.tup [V.str "she"])) T' (.tup [V.non, V.str "", V.str "it", V.str "He", V.int 5, V.ref l, V.ref t, V.str "heshe", V.str "h"]) = H4 at hl4 ht4 hT4 hW4 b4 ⊢
      clear hH4
      have hB4 : Stb K H4 p a (ns.map V.int) := hB2.mono b4
      refine ⟨T', rfl, ⟨_, .inl (.inl hT4)⟩, for_tup (K := K) (a := T') (xs := sexes l t) (fun _ σ H5 => ∃ x4 x5 x6, σ = [some (.ref a), some (.ref p), some (.str z), some (.int ((i : Nat) : Int)), x4, x5, x6] ∧ TownAt H5 p ∧ SameBut p H4 H5)
        ⟨_, _, _, rfl, hW4, SameBut.refl p H4⟩ (fun _ _ H5 _ ⟨_, _, _, _, _, b5⟩ => .inl (.inl (b5 _ _ nTp hT4))) ?_ ?_⟩
      · rintro i' x σ H5 hx ⟨y4, y5, y6, rfl, hT5, b5⟩
        refine ⟨_, rfl, _, rfl, _, rfl, _, rfl, _, rfl, by show 2 ≤ sizeLine; decide, fun l2 nl2 => ?_⟩
        have b6 := (same_upd (o := .lst [V.str z, V.non]) nl2).but (p := p)
        refine ⟨a, p, l2, ns, [.str z, .non], rfl, hB4.mono (b5.trans b6), hlen, hT5.but (same_upd nl2), .inl (.inl upd_same), (hT5.lt nl2).symm, List.cons_ne_nil _ _, by show 2 ≤ 1000; decide, fun H6 y hy hT6 b7 => ?_⟩
        have b8 := b5.trans (b6.trans b7)
        obtain ⟨ix, sx⟩ := sexes_in (K := K) (b8 _ _ nlp hl4) (b8 _ _ ntp ht4) (List.mem_of_getElem? hx)
        have iy : In K H6 y := by
          simp only [List.mem_cons, List.not_mem_nil, or_false] at hy
          rcases hy with rfl | rfl
          · exact in_str hz
          · exact in_non
        refine ⟨i, x, y, rfl, hi, ix, iy, fun _ => ?_, fun e => absurd e (by rw [sx]; exact Bool.false_ne_true), fun b r ex => absurd (sexV_sexC b) (by rw [← ex, sx]; exact Bool.false_ne_true)⟩
        intro H7 t7 s7 e7
        refine ⟨by show 2 ≤ sizeLine; decide, fun t8 n8 => ?_⟩
        refine ⟨_, _, dp_ref (same_upd n8 _ _ e7), dp_ref (j := 3) upd_same, by decide +kernel, by decide +kernel, _, rfl, ?_⟩
        refine iteF ?_
        exact ⟨_, _, _, rfl, (hT6.but s7).but (same_upd n8), b8.trans ((s7.trans (same_upd n8)).but)⟩
      · rintro σ H5 ⟨y4, y5, y6, rfl, hT5, b5⟩
        have b5' := b4.trans b5
        clear hl4 ht4 hT4 hW4 b4 b5 c1 c2 c3 nt nT nl nlp ntp nTp hB4
        -- the rows
        refine ⟨by show 1 ≤ sizeLine; decide, fun l nl => ?_⟩
        refine ⟨by show 1 ≤ sizeLine; decide, fun t nt => ?_⟩
        refine ⟨_, 61, rfl, rfl, by decide +kernel, by decide, by decide, by decide +kernel, ?_⟩
        refine ⟨by show 9 ≤ sizeLine; decide, fun T' nT => ?_⟩
        have c1 := same_upd (o := .lst [V.str "f"]) nl
        have c2 := c1.trans (same_upd (o := .tup [V.str "f"]) nt)
        have c3 := c2.trans (same_upd (o := .tup [V.non, V.str "x", V.str "F", V.str "f s", V.int 5, V.ref l, V.ref t, V.str (strRep "f" 61), V.str "fmsdx"]) nT)
        have hl4 : (upd (upd (upd H5 l (.lst [V.str "f"])) t (.tup [V.str "f"])) T' (.tup [V.non, V.str "x", V.str "F", V.str "f s", V.int 5, V.ref l, V.ref t, V.str (strRep "f" 61), V.str "fmsdx"])) l = some (.lst [V.str "f"]) := same_upd nT _ _ (same_upd nt _ _ upd_same)
        have ht4 : (upd (upd (upd H5 l (.lst [V.str "f"])) t (.tup [V.str "f"])) T' (.tup [V.non, V.str "x", V.str "F", V.str "f s", V.int 5, V.ref l, V.ref t, V.str (strRep "f" 61), V.str "fmsdx"])) t = some (.tup [V.str "f"]) := same_upd nT _ _ upd_same
        have hT4 : (upd (upd (upd H5 l (.lst [V.str "f"])) t (.tup [V.str "f"])) T' (.tup [V.non, V.str "x", V.str "F", V.str "f s", V.int 5, V.ref l, V.ref t, V.str (strRep "f" 61), V.str "fmsdx"])) T' = some (.tup (bads l t)) := upd_same
        have nlp : l ≠ p := (hT5.lt nl).symm
        have ntp : t ≠ p := ((hT5.but c1).lt nt).symm
        have nTp : T' ≠ p := ((hT5.but c2).lt nT).symm
        have hW4 := hT5.but c3
        have b4 := b5'.trans (c3.but (p := p))
        generalize hH4 : upd (upd (upd H5 l (.lst [V.str "f"])) t (.tup [V.str "f"])) T' (.tup [V.non, V.str "x", V.str "F", V.str "f s", V.int 5, V.ref l, V.ref t, V.str (strRep "f" 61), V.str "fmsdx"]) = H4 at hl4 ht4 hT4 hW4 b4 ⊢
        clear hH4
        refine ⟨T', rfl, ⟨_, .inl (.inl hT4)⟩, for_tup (K := K) (a := T') (xs := bads l t) (fun _ σ H5 => ∃ x4 x5 x6, σ = [some (.ref a), some (.ref p), some (.str z), some (.int ((i : Nat) : Int)), x4, x5, x6] ∧ TownAt H5 p ∧ SameBut p H4 H5)
          ⟨_, _, _, rfl, hW4, SameBut.refl p H4⟩ (fun _ _ H5 _ ⟨_, _, _, _, _, b5⟩ => .inl (.inl (b5 _ _ nTp hT4))) ?_ ?_⟩
        · rintro i' x σ H6 hx ⟨z4, z5, z6, rfl, hT6, b6⟩
          obtain ⟨ix, sx⟩ := bads_in (K := K) (b6 _ _ nlp hl4) (b6 _ _ ntp ht4) (List.mem_of_getElem? hx)
          refine ⟨_, rfl, _, rfl, i, _, x, rfl, hi, in_str (by decide +kernel), ix, fun e => absurd e (by decide +kernel), fun _ _ => ?_, fun b r _ _ er => absurd er (by rw [sx]; exact Bool.false_ne_true)⟩
          intro H7 t7 s7 e7
          refine ⟨by show 2 ≤ sizeLine; decide, fun t8 n8 => ?_⟩
          refine ⟨_, _, dp_ref (same_upd n8 _ _ e7), dp_ref (j := 4) upd_same, by decide +kernel, by decide +kernel, _, rfl, ?_⟩
          refine iteF ?_
          exact ⟨_, _, _, rfl, (hT6.but s7).but (same_upd n8), b6.trans ((s7.trans (same_upd n8)).but)⟩
        · rintro σ H6 ⟨z4, z5, z6, rfl, hT6, b6⟩
          exact ⟨_, _, _, _, rfl, hT6, b4.trans b6⟩
    · rintro σ H3 ⟨x3, x4, x5, x6, rfl, hT3, b3⟩
      clear hB2 b3 hT2 hT3
      refine ⟨by show 2 ≤ sizeLine; decide, fun t1 n1 => ?_⟩
      have k1 : (upd H3 t1 (.tup [V.str "he", V.str "sf"])) t1 = some (.tup [V.str "he", V.str "sf"]) := upd_same
      generalize upd H3 t1 (.tup [V.str "he", V.str "sf"]) = G1 at k1 ⊢
      refine ⟨by show 2 ≤ sizeLine; decide, fun t2 n2 => ?_⟩
      replace k1 := same_upd (o := .tup [V.str "she", V.str "sm"]) n2 _ _ k1
      have k2 : (upd G1 t2 (.tup [V.str "she", V.str "sm"])) t2 = some (.tup [V.str "she", V.str "sm"]) := upd_same
      generalize upd G1 t2 (.tup [V.str "she", V.str "sm"]) = G2 at k1 k2 ⊢
      refine ⟨by show 2 ≤ sizeLine; decide, fun t3 n3 => ?_⟩
      replace k1 := same_upd (o := .tup [V.str "he", V.str "df"]) n3 _ _ k1
      replace k2 := same_upd (o := .tup [V.str "he", V.str "df"]) n3 _ _ k2
      have k3 : (upd G2 t3 (.tup [V.str "he", V.str "df"])) t3 = some (.tup [V.str "he", V.str "df"]) := upd_same
      generalize upd G2 t3 (.tup [V.str "he", V.str "df"]) = G3 at k1 k2 k3 ⊢
      refine ⟨by show 2 ≤ sizeLine; decide, fun t4 n4 => ?_⟩
      replace k1 := same_upd (o := .tup [V.str "she", V.str "dm"]) n4 _ _ k1
      replace k2 := same_upd (o := .tup [V.str "she", V.str "dm"]) n4 _ _ k2
      replace k3 := same_upd (o := .tup [V.str "she", V.str "dm"]) n4 _ _ k3
      have k4 : (upd G3 t4 (.tup [V.str "she", V.str "dm"])) t4 = some (.tup [V.str "she", V.str "dm"]) := upd_same
      generalize upd G3 t4 (.tup [V.str "she", V.str "dm"]) = G4 at k1 k2 k3 k4 ⊢
      refine ⟨by show 2 ≤ sizeLine; decide, fun t5 n5 => ?_⟩
      replace k1 := same_upd (o := .tup [V.str "he", V.str "fsf"]) n5 _ _ k1
      replace k2 := same_upd (o := .tup [V.str "he", V.str "fsf"]) n5 _ _ k2
      replace k3 := same_upd (o := .tup [V.str "he", V.str "fsf"]) n5 _ _ k3
      replace k4 := same_upd (o := .tup [V.str "he", V.str "fsf"]) n5 _ _ k4
      have k5 : (upd G4 t5 (.tup [V.str "he", V.str "fsf"])) t5 = some (.tup [V.str "he", V.str "fsf"]) := upd_same
      generalize upd G4 t5 (.tup [V.str "he", V.str "fsf"]) = G5 at k1 k2 k3 k4 k5 ⊢
      refine ⟨by show 5 ≤ sizeLine; decide, fun l nl => ?_⟩
      replace k1 := same_upd (o := .lst [V.ref t1, V.ref t2, V.ref t3, V.ref t4, V.ref t5]) nl _ _ k1
      replace k2 := same_upd (o := .lst [V.ref t1, V.ref t2, V.ref t3, V.ref t4, V.ref t5]) nl _ _ k2
      replace k3 := same_upd (o := .lst [V.ref t1, V.ref t2, V.ref t3, V.ref t4, V.ref t5]) nl _ _ k3
      replace k4 := same_upd (o := .lst [V.ref t1, V.ref t2, V.ref t3, V.ref t4, V.ref t5]) nl _ _ k4
      replace k5 := same_upd (o := .lst [V.ref t1, V.ref t2, V.ref t3, V.ref t4, V.ref t5]) nl _ _ k5
      have el : (upd G5 l (.lst [V.ref t1, V.ref t2, V.ref t3, V.ref t4, V.ref t5])) l = some (.lst [V.ref t1, V.ref t2, V.ref t3, V.ref t4, V.ref t5]) := upd_same
      generalize upd G5 l (.lst [V.ref t1, V.ref t2, V.ref t3, V.ref t4, V.ref t5]) = G6 at k1 k2 k3 k4 k5 el ⊢
      refine ⟨_, rfl, .inl ⟨rfl, _, .inl (.inl el)⟩, by show 2 ≤ sizeLine; decide, fun t6 n6 => ?_⟩
      replace k1 := same_upd (o := .tup [V.str "she", V.str "msdfmdm"]) n6 _ _ k1
      replace k2 := same_upd (o := .tup [V.str "she", V.str "msdfmdm"]) n6 _ _ k2
      replace k3 := same_upd (o := .tup [V.str "she", V.str "msdfmdm"]) n6 _ _ k3
      replace k4 := same_upd (o := .tup [V.str "she", V.str "msdfmdm"]) n6 _ _ k4
      replace k5 := same_upd (o := .tup [V.str "she", V.str "msdfmdm"]) n6 _ _ k5
      replace el := same_upd (o := .tup [V.str "she", V.str "msdfmdm"]) n6 _ _ el
      have k6 : (upd G6 t6 (.tup [V.str "she", V.str "msdfmdm"])) t6 = some (.tup [V.str "she", V.str "msdfmdm"]) := upd_same
      generalize upd G6 t6 (.tup [V.str "she", V.str "msdfmdm"]) = G7 at k1 k2 k3 k4 k5 k6 el ⊢
      refine ⟨by show 1 ≤ sizeLine; decide, fun b nb => ?_⟩
      refine ⟨l, b, _, _, rfl, rfl, (upd_ne (ne_of_none el nb)).trans el, upd_same, by show 5 + 1 ≤ sizeLine; decide, ?_⟩
      have kk : ∀ {t : Addr} {s1 s2 : Str}, G7 t = some (.tup [V.str s1, V.str s2]) → (upd (upd G7 b (.lst [V.ref t6])) l (.lst ([V.ref t1, V.ref t2, V.ref t3, V.ref t4, V.ref t5] ++ [V.ref t6]))) t = some (.tup [V.str s1, V.str s2]) := by
        intro t s1 s2 h
        rw [upd_ne (ne_of h el (fun z => nomatch z)), upd_ne (ne_of_none h nb)]
        exact h
      replace k1 := kk k1
      replace k2 := kk k2
      replace k3 := kk k3
      replace k4 := kk k4
      replace k5 := kk k5
      replace k6 := kk k6
      clear kk
      replace el : (upd (upd G7 b (.lst [V.ref t6])) l (.lst ([V.ref t1, V.ref t2, V.ref t3, V.ref t4, V.ref t5] ++ [V.ref t6]))) l = some (.lst [V.ref t1, V.ref t2, V.ref t3, V.ref t4, V.ref t5, V.ref t6]) := upd_same
      generalize upd (upd G7 b (.lst [V.ref t6])) l (.lst ([V.ref t1, V.ref t2, V.ref t3, V.ref t4, V.ref t5] ++ [V.ref t6])) = G8 at k1 k2 k3 k4 k5 k6 el ⊢
      -- for sex, bad in kinds
      refine ⟨_, rfl, l, rfl, ⟨_, .inl (.inl el)⟩, for_list (K := K) (a := l) (xs := [V.ref t1, V.ref t2, V.ref t3, V.ref t4, V.ref t5, V.ref t6]) (fun _ σ H9 => ∃ x3 x5 x6, σ = [some (.ref a), some (.ref p), some (.str z), x3, some (.ref l), x5, x6] ∧ Same G8 H9)
        ⟨_, _, _, rfl, Same.refl G8⟩ (fun _ _ H9 _ ⟨_, _, _, _, s9⟩ => .inl (.inl (s9 _ _ el))) ?_ ?_⟩
      · rintro i x σ H9 hx ⟨y3, y5, y6, rfl, s9⟩
        have hm := List.mem_of_getElem? hx
        have hk : ∃ (t : Addr) (c : Bool) (r : List Nat), x = .ref t ∧ H9 t = some (.tup [V.str (sexC c), V.str (rowS r)]) ∧ rowV (.str (rowS r)) = true ∧ straight c r = false := by
          simp only [List.mem_cons, List.not_mem_nil, or_false] at hm
          rcases hm with rfl | rfl | rfl | rfl | rfl | rfl
          · exact ⟨t1, true, [115, 102], rfl, s9 _ _ k1, by decide +kernel, by decide +kernel⟩
          · exact ⟨t2, false, [115, 109], rfl, s9 _ _ k2, by decide +kernel, by decide +kernel⟩
          · exact ⟨t3, true, [100, 102], rfl, s9 _ _ k3, by decide +kernel, by decide +kernel⟩
          · exact ⟨t4, false, [100, 109], rfl, s9 _ _ k4, by decide +kernel, by decide +kernel⟩
          · exact ⟨t5, true, [102, 115, 102], rfl, s9 _ _ k5, by decide +kernel, by decide +kernel⟩
          · exact ⟨t6, false, [109, 115, 100, 102, 109, 100, 109], rfl, s9 _ _ k6, by decide +kernel, by decide +kernel⟩
        obtain ⟨t, c, r, rfl, ht, er, es⟩ := hk
        have hrl : (rowS r).length ≤ 1000 := by
          have : (decide ((rowS r).length ≤ 60) && (rowS r).cps.toList.all stepC) = true := er
          rw [Bool.and_eq_true, decide_eq_true_eq] at this
          omega
        refine ⟨t, _, rfl, .inl (.inl ht), rfl, ?_⟩
        refine ⟨_, _, rfl, _, _, rfl, rfl, ?_⟩
        refine ⟨_, rfl, _, rfl, 0, _, _, rfl, by decide, in_str (sexC_len c), in_str hrl, fun e => absurd (sexV_sexC c) (by rw [e]; exact Bool.false_ne_true), fun _ e => absurd er (by rw [e]; exact Bool.false_ne_true), fun c' r' e1 e2 _ => ?_⟩
        cases sexC_inj (V.str.inj e1)
        cases rowS_inj (V.str.inj e2)
        intro H10 s10
        refine ⟨straight c r, false, rfl, rfl, _, rfl, ?_⟩
        rw [es]
        refine iteF ?_
        refine ⟨_, rfl, _, rfl, 1, _, _, rfl, by decide, in_str (sexC_len c), in_str hrl, fun e => absurd (sexV_sexC c) (by rw [e]; exact Bool.false_ne_true), fun _ e => absurd er (by rw [e]; exact Bool.false_ne_true), fun c' r' e1 e2 _ => ?_⟩
        cases sexC_inj (V.str.inj e1)
        cases rowS_inj (V.str.inj e2)
        refine ⟨fun _ => ?_, fun e => absurd e (by rw [es]; exact Bool.false_ne_true)⟩
        intro H11 t7 s11 e7
        refine ⟨by show 2 ≤ sizeLine; decide, fun t8 n8 => ?_⟩
        refine ⟨_, _, dp_ref (same_upd n8 _ _ e7), dp_ref (j := 4) upd_same, by decide +kernel, by decide +kernel, _, rfl, ?_⟩
        refine iteF ?_
        exact ⟨_, _, _, rfl, s9.trans (s10.trans (s11.trans (same_upd n8)))⟩
      · rintro σ H9 ⟨y3, y5, y6, rfl, s9⟩
        have he : ∀ {c : Bool}, V.str "he" = V.str (sexC c) → c = true := fun {c} h => sexC_inj (b := c) (c := true) (V.str.inj h).symm
        have she : ∀ {c : Bool}, V.str "she" = V.str (sexC c) → c = false := fun {c} h => sexC_inj (b := c) (c := false) (V.str.inj h).symm
        have rw60 : strRep "f" 60 = rowS (List.replicate 60 102) := by decide +kernel
        have mw60 : strRep "m" 60 = rowS (List.replicate 60 109) := by decide +kernel
        have sfm : ("sfm" : Str) = rowS [115, 102, 109] := by decide +kernel
        have ok60 : rowV (.str (strRep "f" 60)) = true := by decide +kernel
        have mk60 : rowV (.str (strRep "m" 60)) = true := by decide +kernel
        have oks : rowV (.str "sfm") = true := by decide +kernel
        have sh : sexV (.str "he") = true := by decide +kernel
        have ss : sexV (.str "she") = true := by decide +kernel
        -- is_straight('he', 'f' * 60)
        refine ⟨_, 60, rfl, rfl, by decide +kernel, by decide, by decide, by decide +kernel, ?_⟩
        refine ⟨0, _, _, rfl, by decide, in_str (by decide +kernel), in_str (by decide +kernel), fun e => absurd sh (by rw [e]; exact Bool.false_ne_true), fun _ e => absurd ok60 (by rw [e]; exact Bool.false_ne_true), fun c' r' e1 e2 _ => ?_⟩
        cases he e1
        cases rowS_inj (rw60.symm.trans (V.str.inj e2))
        intro H10 s10
        have es : straight true (List.replicate 60 102) = true := by decide +kernel
        refine ⟨straight true (List.replicate 60 102), true, rfl, rfl, _, rfl, ?_⟩
        rw [es]
        refine iteF ?_
        -- chain('she', 'm' * 60)
        refine ⟨_, 60, rfl, rfl, by decide +kernel, by decide, by decide, by decide +kernel, ?_⟩
        refine ⟨1, _, _, rfl, by decide, in_str (by decide +kernel), in_str (by decide +kernel), fun e => absurd ss (by rw [e]; exact Bool.false_ne_true), fun _ e => absurd mk60 (by rw [e]; exact Bool.false_ne_true), fun c' r' e1 e2 _ => ?_⟩
        cases she e1
        cases rowS_inj (mw60.symm.trans (V.str.inj e2))
        have em : straight false (List.replicate 60 109) = true := by decide +kernel
        refine ⟨fun e => absurd em (by rw [e]; exact Bool.false_ne_true), fun _ => ?_⟩
        intro H11 t ff x y xs s11 ht hf hl
        refine ⟨t, _, 0, .ref ff, rfl, rfl, .inl (.inl ht), rfl, ff, xs, rfl, .inr (.inl (.inl hf)), rfl, ?_⟩
        have hl' : xs.length = 61 := hl
        rw [hl']
        refine ⟨_, rfl, ?_⟩
        refine iteF ?_
        -- turned('he', 'f' * 60) == 's' * 60
        refine ⟨_, 60, rfl, rfl, by decide +kernel, by decide, by decide, by decide +kernel, ?_⟩
        refine ⟨2, _, _, rfl, by decide, in_str (by decide +kernel), in_str (by decide +kernel), fun e => absurd sh (by rw [e]; exact Bool.false_ne_true), fun _ e => absurd ok60 (by rw [e]; exact Bool.false_ne_true), fun c' r' e1 e2 _ => ?_⟩
        cases he e1
        cases rowS_inj (rw60.symm.trans (V.str.inj e2))
        intro H12 s12
        refine ⟨_, 60, rfl, rfl, by decide +kernel, by decide, by decide, by decide +kernel, ?_⟩
        have et : turnS true (List.replicate 60 102) = strRep "s" 60 := by decide +kernel
        rw [et]
        refine ⟨rfl, _, rfl, ?_⟩
        rw [decide_eq_true rfl]
        refine iteT ?_
        -- turned('she', 'sfm') == 'ssm'
        refine ⟨2, _, _, rfl, by decide, in_str (by decide +kernel), in_str (by decide +kernel), fun e => absurd ss (by rw [e]; exact Bool.false_ne_true), fun _ e => absurd oks (by rw [e]; exact Bool.false_ne_true), fun c' r' e1 e2 _ => ?_⟩
        cases she e1
        cases rowS_inj (sfm.symm.trans (V.str.inj e2))
        intro H13 s13
        have e3 : turnS false [115, 102, 109] = "ssm" := by decide +kernel
        rw [e3]
        refine ⟨rfl, ?_⟩
        rw [decide_eq_true rfl]
        exact q _
end
end K05

set_option maxHeartbeats 2000000
/-! enumerate of a text; zip of a list and a text -/
namespace Kin
open PySem PySem.Spec PyProof.Rows L2
/-- a text's signs, each in a new pair behind its number -/
def ItES (z : Str) : It :=
  ⟨fun i _ => i < z.cps.size, fun i H v H' => ∃ T c, v = .ref T ∧ H T = none ∧ H' = upd H T (.tup [.int (i : Nat), .str ⟨#[c]⟩]) ∧ z.cps[i]? = some c, fun i _ => i = z.cps.size⟩
theorem turn_enumS {P : Program} {w : World} {K : PySem.W.Frag} {elts : List Expr} {kk : Nat} {tpos : Pos} (z : Str) (tz : Tok) (e it : Addr) :
    Turn P w K (.Tuple elts kk tpos) (ItES z) [e, it] e (fun i h => (∃ old, IsEnum h e it ((i : Nat) : Int) old) ∧ h.IsStrIter it (strIterType z) z tz i ∧ e ≠ it) where
  mem := List.mem_cons_self
  obj := by
    rintro i h ⟨⟨old, he⟩, ⟨o, ho, _, hd⟩, _⟩ b hb
    rcases (show b = e ∨ b = it by simpa using hb) with rfl | rfl
    · exact ⟨_, he, fun v q => nomatch q⟩
    · exact ⟨o, ho, fun v q => by rw [hd] at q; cases q⟩
  keep := by
    rintro i h h' ⟨⟨old, he⟩, ⟨o, ho, hc, hd⟩, hne⟩ k
    exact ⟨⟨old, k e List.mem_cons_self _ he⟩, ⟨o, k it (List.mem_cons_of_mem _ List.mem_cons_self) _ ho, hc, hd⟩, hne⟩
  item := by
    rintro X rfl rfl rfl hc i pins s σ H E I hf ⟨⟨old, he⟩, hit, hne⟩ hg
    have hel : e < s.heap.objs.size := Heap.lt_size he
    have hil : it < s.heap.objs.size := by obtain ⟨_, q, _⟩ := hit; exact Heap.lt_size q
    have Dr := Draws.text (prog := X.prog) (w := X.w) (A := X.A.in1) (I.ok.hd hc) it z tz
    refine wpAny_pyNext_enum_itemD Dr he hit hg hne (fun q => hne (List.mem_singleton.mp q)) ?_
    rintro x h' tk ⟨c, u, hx, rfl⟩ ho hit' hT hsz hk
    refine ⟨_, rfl, wpAny_letOwnedTupleGo_enum (s := { s with heap := h', toks := tk + 1 }) ho fun h2 he2 sb => ?_⟩
    have hT2 : h2.get? s.heap.objs.size = some { cls := .type "tuple", data := .seq #[.int i tk, .str ⟨#[c]⟩ u] } := (sb.2 _ (Nat.ne_of_gt hel)).trans hT
    have new : ObjOk X.prog X.w (upd H s.heap.objs.size (.tup [.int (i : Nat), .str ⟨#[c]⟩])) h2 s.heap.objs.size (.tup [.int (i : Nat), .str ⟨#[c]⟩]) :=
      ⟨by show 2 ≤ sizeLine; decide, [.int i tk, .str ⟨#[c]⟩ u], .cons ⟨_, rfl⟩ (.cons ⟨_, rfl⟩ .nil), ⟨_, hT2, rfl, _, rfl⟩⟩
    have J := I.turnedNew (t' := tk + 1) (ch := [e, it]) (fun b ob hb q => (sb.2 b (fun y => hb (by simp [y]))).trans (hk b ob (fun y => hb (by simp [y])) (fun y => hb (by simp [y])) q)) hf (Nat.le_refl _) new
    refine ⟨.ref s.heap.objs.size, _, J, rfl, ⟨_, c, rfl, I.hok.fresh (Nat.le_refl _), rfl, hx⟩, ⟨⟨Value.str ⟨#[c]⟩ u, ?_⟩, ?_, hne⟩, fun b hb => ?_⟩
    · rw [show ((i + 1 : Nat) : Int) = (i : Int) + 1 by omega]
      exact he2
    · obtain ⟨o, q1, q2, q3⟩ := hit'
      exact ⟨o, (sb.2 it (Ne.symm hne)).trans q1, q2, q3⟩
    · have hb' : b < s.heap.objs.size := by
        rcases (show b = e ∨ b = it by simpa using hb) with rfl | rfl
        · exact hel
        · exact hil
      rw [upd_ne (Nat.ne_of_lt hb')]
      exact (hf b hb).1
  done := by
    rintro X rfl rfl rfl hc i pins s σ H E I hf ⟨⟨old, he⟩, hit, hne⟩ hg
    have hg' : i = z.cps.size := hg
    subst hg'
    obtain ⟨f0, f1, f2, f3, f4, f5⟩ := hf it (List.mem_cons_of_mem _ List.mem_cons_self)
    have Dr := Draws.text (prog := X.prog) (w := X.w) (A := X.A.in1) (I.ok.hd hc) it z tz
    exact wpAny_pyNext_enum_endD Dr he hit fun h' hx => ⟨rfl, I.turned (t' := s.toks) (fun b o hb q => hx b o hb q) f0 f1 f3 f4 f5⟩
  self := fun A i s Q E st h => by
    obtain ⟨⟨_, he⟩, _⟩ := st
    exact wpAny_pyIter_enum he h
def iEnumS (ta : TA) : TI := fun σ H R => ta σ H fun vs H1 => ∃ z, vs = [.str z] ∧ R (ItES z) H1
theorem pi_enumS {X : Cx} {e : Expr} {ta : TA} {p pos tpos : Pos} {elts : List Expr} {kk : Nat} (hg : Gl X "enumerate") (hm : X.mg "enumerate" = none) (ha : PA X [e] ta) (hs : starEach [e] X.env = [(false, eval e X.env)] := by rfl) :
    PI X (.Tuple elts kk tpos) (.Call (.Name "enumerate" p) [e] [] pos) (iEnumS ta) := by
  refine ⟨fun pins s σ H R I h => ?_⟩
  refine Call_ (ld_blt I hg hm boot_enumerate (PyProof.Rows.callWith_type1 (thn (ha.run pos pins s σ H _ I h) ?_) hs rfl))
  rintro us s1 ⟨vs, H1, I1, r1, z, rfl, q⟩
  obtain ⟨u, rfl, t, rfl⟩ := vals1 r1
  refine call_enumerate_str fun h' he hit hsz hk => wpAny_pyIter_enum he ?_
  have I2 : Inv X pins σ H1 { s1 with heap := h' } := I1.kept (t' := s1.toks) hk
  refine ⟨s1.heap.objs.size + 1, [s1.heap.objs.size + 1, s1.heap.objs.size], _, _, H1, rfl, I2, turn_enumS z t (s1.heap.objs.size + 1) s1.heap.objs.size, ⟨⟨.none, he⟩, hit, Nat.succ_ne_self _⟩, fun b hb => ?_, q⟩
  have hle : s1.heap.objs.size ≤ b := by
    rcases (show b = s1.heap.objs.size + 1 ∨ b = s1.heap.objs.size by simpa using hb) with rfl | rfl
    · exact Nat.le_add_right _ _
    · exact Nat.le_refl _
  exact I1.fpOk hle (I1.hok.fresh hle)
theorem walk_enumS {z : Str} : Walk (ItES z) z.cps.size (fun _ => True) (fun i H v H' => ∃ T c, v = .ref T ∧ H T = none ∧ H' = upd H T (.tup [.int (i : Nat), .str ⟨#[c]⟩]) ∧ z.cps[i]? = some c) :=
  ⟨fun _ _ hi _ => hi, fun _ _ => rfl, fun _ _ _ _ _ _ y => y⟩
/-! ### zip(list, text) -/
def ItZS (K : PySem.W.Frag) (a : Addr) (z : Str) : It :=
  ⟨fun i H => i < z.cps.size ∧ ∃ (xs : List V) (x : V), SqL K H a xs ∧ xs[i]? = some x,
    fun i H v H' => ∃ T x c, v = .ref T ∧ H T = none ∧ H' = upd H T (.tup [x, .str ⟨#[c]⟩]) ∧ (∀ xs, SqL K H a xs → xs[i]? = some x) ∧ z.cps[i]? = some c,
    fun i H => ∃ xs : List V, SqL K H a xs ∧ i ≤ xs.length ∧ i ≤ z.cps.size ∧ (i = xs.length ∨ i = z.cps.size)⟩
theorem turn_zipS {P : Program} {w : World} {K : PySem.W.Frag} {elts : List Expr} {kk : Nat} {tpos : Pos} {a z TI TO i1 i2 : Addr} (zs : Str) (tz : Tok) (S : ZipSep2 z TI TO i1 i2 [i1, a] [i2]) (hd : [z, TI, TO, i1, i2].Nodup) :
    Turn P w K (.Tuple elts kk tpos) (ItZS K a zs) [z, TI, TO, i1, i2] z
      (fun i h => IsZip h z TI TO .none ∧ IsTupOf2 h TI (.ref i1) (.ref i2) ∧ (∃ x y, IsTupOf2 h TO x y) ∧ h.IsListIter i1 a i ∧ h.IsStrIter i2 (strIterType zs) zs tz i) where
  mem := List.mem_cons_self
  obj := by
    rintro i h ⟨hz, hTI, ⟨x, y, hTO⟩, ⟨o1, e1, _, d1⟩, ⟨o2, e2, _, d2⟩⟩ c hc
    rcases (show c = z ∨ c = TI ∨ c = TO ∨ c = i1 ∨ c = i2 by simpa using hc) with rfl | rfl | rfl | rfl | rfl
    · exact ⟨_, hz, fun v q => nomatch q⟩
    · exact ⟨_, hTI, fun v q => nomatch q⟩
    · exact ⟨_, hTO, fun v q => nomatch q⟩
    · exact ⟨o1, e1, fun v q => by rw [d1] at q; cases q⟩
    · exact ⟨o2, e2, fun v q => by rw [d2] at q; cases q⟩
  keep := by
    rintro i h h' ⟨hz, hTI, ⟨x, y, hTO⟩, h1, ⟨o2, e2, c2, d2⟩⟩ k
    exact ⟨k z (by simp) _ hz, k TI (by simp) _ hTI, ⟨x, y, k TO (by simp) _ hTO⟩, h1.at fun o q => k i1 (by simp) o q, ⟨o2, k i2 (by simp) _ e2, c2, d2⟩⟩
  item := by
    rintro X rfl rfl rfl hc i pins s σ H E I hf ⟨hz, hTI, ⟨x0, y0, hTO⟩, h1, h2⟩ ⟨hlz, xs, x, hqx, hx⟩
    obtain ⟨its, rv, p, _⟩ := I.list hqx
    obtain ⟨u, hu, ru⟩ := rv.get hx
    have hzl : z < s.heap.objs.size := Heap.lt_size hz
    have hli : i < its.toArray.size := by simpa using (List.getElem?_eq_some_iff.mp hu).1
    have D1 := Draws.list (prog := X.prog) (w := X.w) (A := X.A.in1) (I.ok.hd hc) i1 a (fun q => by
      obtain ⟨o, e, hcl, _⟩ := h1
      obtain ⟨o', n, e', hcl', _⟩ := p
      rw [q, e] at e'
      cases e'
      rw [hcl] at hcl'
      exact absurd (Value.type.inj hcl') (by decide)) its.toArray
    have D2 := Draws.text (prog := X.prog) (w := X.w) (A := X.A.in1) (I.ok.hd hc) i2 zs tz
    refine wpAny_pyNext_zipD2_item S D1 D2 hz hTI hTO ⟨h1, p.isList⟩ h2 hli hlz ?_
    rintro v1 v2 h' tk hv1 ⟨c, u2, hv2, rfl⟩ z' TO' ⟨h1', _⟩ h2' hT hsz hk
    have ev : v1 = u := by
      have q1 : its.toArray[i]? = some u := by simpa using hu
      exact Option.some.inj (hv1.symm.trans q1)
    subst ev
    refine ⟨_, rfl, wpAny_letOwnedTupleGo_zip (s := { s with heap := h', toks := tk }) z' fun h3 z3 sb => ?_⟩
    have hT2 : h3.get? s.heap.objs.size = some { cls := .type "tuple", data := .seq #[v1, .str ⟨#[c]⟩ u2] } := (sb.2 _ (Nat.ne_of_gt hzl)).trans hT
    have new : ObjOk X.prog X.w (upd H s.heap.objs.size (.tup [x, .str ⟨#[c]⟩])) h3 s.heap.objs.size (.tup [x, .str ⟨#[c]⟩]) :=
      ⟨by show 2 ≤ sizeLine; decide, [v1, .str ⟨#[c]⟩ u2], .cons ru (.cons ⟨_, rfl⟩ .nil), ⟨_, hT2, rfl, _, rfl⟩⟩
    have J := I.turnedNew (t' := tk) (ch := [z, TI, TO, i1, i2]) (fun b o hb q => (sb.2 b (fun y => hb (by simp [y]))).trans (hk b o (fun y => hb (by simp [y])) (fun y => hb (by simp [y])) (fun y => hb (by simp [y])) (fun y => hb (by simp [y])) q)) hf (Nat.le_refl _) new
    refine ⟨.ref s.heap.objs.size, _, J, rfl, ⟨_, x, c, rfl, I.hok.fresh (Nat.le_refl _), rfl, fun l hl => by rw [I.list_inj hl hqx]; exact hx, hv2⟩, ⟨z3, ?_, ⟨v1, .str ⟨#[c]⟩ u2, ?_⟩, ?_, ?_⟩, fun b hb => ?_⟩
    · exact (sb.2 _ S.TIz).trans (hk _ _ S.TIz S.TITO S.TIi1 S.TIi2 hTI)
    · exact (sb.2 _ S.TOz).trans TO'
    · exact h1'.at fun o q => (sb.2 _ (Ne.symm S.zi1)).trans q
    · obtain ⟨o, q1, q2, q3⟩ := h2'
      exact ⟨o, (sb.2 _ (Ne.symm S.zi2)).trans q1, q2, q3⟩
    · have hlt : b < s.heap.objs.size := by
        rcases (show b = z ∨ b = TI ∨ b = TO ∨ b = i1 ∨ b = i2 by simpa using hb) with rfl | rfl | rfl | rfl | rfl
        · exact hzl
        · exact Heap.lt_size hTI
        · exact Heap.lt_size hTO
        · obtain ⟨_, e1, _⟩ := h1; exact Heap.lt_size e1
        · obtain ⟨_, e2, _⟩ := h2; exact Heap.lt_size e2
      rw [upd_ne (Nat.ne_of_lt hlt)]
      exact (hf b hb).1
  done := by
    rintro X rfl rfl rfl hc i pins s σ H E I hf ⟨hz, hTI, ⟨x0, y0, hTO⟩, h1, h2⟩ ⟨xs, hqx, hl1, hl2, hend⟩
    obtain ⟨its, rv, p, _⟩ := I.list hqx
    have l1 := rv.length
    have D1 := Draws.list (prog := X.prog) (w := X.w) (A := X.A.in1) (I.ok.hd hc) i1 a (fun q => by
      obtain ⟨o, e, hcl, _⟩ := h1
      obtain ⟨o', n, e', hcl', _⟩ := p
      rw [q, e] at e'
      cases e'
      rw [hcl] at hcl'
      exact absurd (Value.type.inj hcl') (by decide)) its.toArray
    have D2 := Draws.text (prog := X.prog) (w := X.w) (A := X.A.in1) (I.ok.hd hc) i2 zs tz
    refine wpAny_pyNext_zipD2_end S D1 D2 hz hTI hTO ⟨h1, p.isList⟩ h2 (by simp; omega) hl2 ?_ fun h' tk hk => ⟨rfl, I.turnedL (t' := tk) (ch := [z, TI, TO, i1, i2]) (fun b o hb q =>
      hk b o (fun y => hb (by simp [y])) (fun y => hb (by simp [y])) (fun y => hb (by simp [y])) (fun y => hb (by simp [y])) q) hf⟩
    rcases hend with q | q
    · exact .inl (by simp; omega)
    · exact .inr q
  self := fun A i s Q E st h => wpAny_pyIter_zip st.1 h
def iZipS (K : PySem.W.Frag) (ta : TA) : TI := fun σ H R => ta σ H fun vs H1 => ∃ a z xs, vs = [.ref a, .str z] ∧ SqL K H1 a xs ∧ R (ItZS K a z) H1
theorem pi_zipS {X : Cx} {e e2 : Expr} {ta : TA} {p pos tpos : Pos} {elts : List Expr} {kk : Nat} (hg : Gl X "zip") (hm : X.mg "zip" = none) (ha : PA X [e, e2] ta)
    (hs : starEach [e, e2] X.env = (false, eval e X.env) :: starEach [e2] X.env := by rfl) (hpl : (backTo pos (starEach [e2] X.env)).any (·.1) = false := by rfl) :
    PI X (.Tuple elts kk tpos) (.Call (.Name "zip" p) [e, e2] [] pos) (iZipS X.K ta) := by
  refine ⟨fun pins s σ H R I h => ?_⟩
  refine Call_ (ld_blt I hg hm PyProof.Rows.boot_zip (PyProof.Rows.callWith_type1 (thn (ha.run pos pins s σ H _ I h) ?_) hs hpl))
  rintro us s1 ⟨vs, H1, I1, r1, a, z, xs, rfl, hqx, q⟩
  obtain ⟨u1, u2, rfl, ra, t, rfl⟩ := vals2 r1
  cases ra
  obtain ⟨its, rv, p1, _⟩ := I1.list hqx
  have la : a < s1.heap.objs.size := p1.lt
  refine zip_begins2 (begins_list a its.toArray) (begins_text z t) p1.isList trivial fun h' hz hTI hTO h1 h2 hsz hk => wpAny_pyIter_zip hz ?_
  have I2 : Inv X pins σ H1 { s1 with heap := h' } := I1.kept (t' := s1.toks) hk
  have S := zip_sep2 (N := s1.heap.objs.size) (fp1 := [a]) (fp2 := []) (fun b hb => by rw [List.mem_singleton.mp hb]; exact la) (fun b hb => by cases hb)
  refine ⟨s1.heap.objs.size + 4, [s1.heap.objs.size + 4, s1.heap.objs.size + 2, s1.heap.objs.size + 3, s1.heap.objs.size, s1.heap.objs.size + 1], _, _, H1, rfl, I2, turn_zipS z t S ?_, ⟨hz, hTI, ⟨_, _, hTO⟩, ⟨_, h1, rfl, rfl⟩, ⟨_, h2, rfl, rfl⟩⟩, fun c hcm => ?_, q⟩
  · simp
  · have hle : s1.heap.objs.size ≤ c := by
      rcases (show c = s1.heap.objs.size + 4 ∨ c = s1.heap.objs.size + 2 ∨ c = s1.heap.objs.size + 3 ∨ c = s1.heap.objs.size ∨ c = s1.heap.objs.size + 1 by simpa using hcm) with z | z | z | z | z
      all_goals rw [z]
      all_goals first | exact Nat.le_add_right _ _ | exact Nat.le_refl _
    exact I1.fpOk hle (I1.hok.fresh hle)
theorem walk_zipS {K : PySem.W.Frag} {a : Addr} {xs : List V} {z : Str} {n : Nat} (hn : n = min xs.length z.cps.size) : Walk (ItZS K a z) n (fun H => SqL K H a xs)
    (fun i H v H' => ∃ T x c, v = .ref T ∧ H T = none ∧ H' = upd H T (.tup [x, .str ⟨#[c]⟩]) ∧ xs[i]? = some x ∧ z.cps[i]? = some c) := by
  subst hn
  refine ⟨fun i _ hi q => ⟨by omega, xs, xs[i]'(by omega), q, List.getElem?_eq_getElem (by omega)⟩, fun _ q => ⟨xs, q, by omega, by omega, by omega⟩, fun i H v H' _ q y => ?_⟩
  obtain ⟨T, x, c, h1, h2, h3, h4, h5⟩ := y
  exact ⟨T, x, c, h1, h2, h3, h4 xs q, h5⟩
end Kin

set_option maxHeartbeats 2000000
/-! sep.join(reversed(list of texts)) -/
namespace Kin
open PySem PySem.Spec PyProof.Rows L2
section
variable {prog : Program} {w : World} {A : Around} {E : Value → Shared → Prop} {s : Shared}
theorem rev_items {its : List Value} {acc : Array Value} (h : ItemsOf (fun i v => its.toArray[its.toArray.size - 1 - i]? = some v) acc its.toArray.size) : acc.toList = its.reverse := by
  obtain ⟨h1, h2⟩ := h
  apply List.ext_getElem?
  intro i
  by_cases hi : i < acc.size
  · have e1 : acc.toList[i]? = some acc[i] := by simp [hi]
    have e2 := h2 i acc[i] (by simp [hi])
    rw [e1, List.getElem?_reverse (by simp at h1; omega)]
    simpa using e2.symm
  · rw [List.getElem?_eq_none (by simpa using hi), List.getElem?_eq_none (by simp at h1 ⊢; omega)]
theorem fit_of {x : Str} {l : List (Str × Tok)} (h : JoinOk x (l.map (·.1)) = true) : Builtin.Str.tooLong ((l.map (·.1)).toArray.foldl (· + ·.length + x.length) 0) = false := by
  unfold JoinOk at h
  rwa [Bool.not_eq_true'] at h
theorem gives_joined {x : Str} : ∀ {l : List (Str × Tok)}, JoinOk x (l.map (·.1)) = true → Gives (joinTail x (strValues l)) (joinMade x l)
  | [], h => gives_joinTail x [] (fit_of h)
  | [p], h => gives_joinTail x [p] (fit_of h)
  | p :: q :: r, h => gives_joinTail x (p :: q :: r) (fit_of h)
theorem join_rev {x : Str} {t : Tok} {l : Addr} {items : List (Str × Tok)} {Q : Value → Shared → Prop} (hh : A.handled = none) (hl : s.heap.IsList l (strValues items).toArray) (hn : items.length ≤ 1000000)
    (hok : JoinOk x (items.reverse.map (·.1)) = true)
    (hq : ∀ h' t' k, (∀ b o, s.heap.get? b = some o → h'.get? b = some o) → Q (.str (Txt.join x (items.reverse.map (·.1))) t') { s with heap := h', toks := k }) :
    wpAny (model prog w) A (call (.type "reversed") [.ref l]) (fun v s1 => wpAny (model prog w) A (call (.builtin "str.join") [.str x t, v]) Q E s1) E s := by
  have hlen : (strValues items).length = items.length := by unfold strValues; rw [List.length_map]
  have hsl := sizeLine_eq
  have ll : l < s.heap.objs.size := by obtain ⟨o, ho, _⟩ := hl; exact Heap.lt_size ho
  refine call_reversed_list hl ?_
  generalize hg : s.heap.push (revObj l (((strValues items).toArray.size : Int) - 1)) = g
  have hit : g.IsRevIter s.heap.objs.size l (((strValues items).toArray.size : Int) - 1) := by rw [← hg]; exact ⟨_, Heap.get?_push_size _ rfl, rfl, rfl⟩
  have hk : ∀ b o, s.heap.get? b = some o → g.get? b = some o := fun b o e => by rw [← hg]; exact Heap.get?_push_of_some _ e
  have hl' : g.IsList l (strValues items).toArray := hl.at fun o e => hk _ _ e
  refine wpAny_call (codeAny_call_builtin PySem.F.slot_str_join.plain PySem.F.entry_str_join (PySem.F.slot_str_join.check _ _ _ _ _ _ _ _ (typeIs_str _ _ _) (PySem.F.args_str_join_2 _ _) ?_))
  rw [join_tree_other]
  refine wpAny_bind (wpAny_typeOf (T := "list_reverseiterator") hit.typeIs ?_)
  refine wpAny_bind (wpAny_tryCatch (wpAny_pyIter_revIter hit ?_))
  refine wpAny_bind (RT.collect_rev (s := { s with heap := g }) hh hit hl' (Nat.ne_of_lt ll) (by rw [List.size_toArray, hlen]; omega) fun h' tk acc hk' ha => ?_)
  rw [rev_items ha]
  have er : (strValues items).reverse = strValues items.reverse := by unfold strValues; rw [List.map_reverse]
  rw [er]
  refine gives_joined hok prog w A (wants Q E) _ (post_join items.reverse ⟨joinFit_length (fit_of hok), fun t' k => hq h' t' k fun b o e => hk' b o ?_ (hk b o e)⟩)
  exact Nat.ne_of_lt (Heap.lt_size e)
end
section
variable {X : Cx}
/-- sep.join(reversed(xs)), xs a list of texts -/
def tJoinRev (K : PySem.W.Frag) (to : TE) (ta : TA) : TE := fun σ H Q => to σ H fun x H1 => (∃ a, x = .str a) ∧ ta σ H1 fun vs H2 => ∃ (a : Str) (q : Addr) (ys : List Str), x = .str a ∧ vs = [.ref q] ∧ SqL K H2 q (ys.map V.str) ∧ ys.length ≤ 1000000 ∧ JoinOk a ys.reverse = true ∧ Q (.str (Txt.join a ys.reverse)) H2
theorem strs_of {ys : List Str} : ∀ {its : List Value}, Vals (ys.map V.str) its → ∃ l : List (Str × Tok), its = strValues l ∧ l.map (·.1) = ys := by
  induction ys with
  | nil =>
    intro its r
    cases r
    exact ⟨[], rfl, rfl⟩
  | cons y ys ih =>
    intro its r
    cases r with
    | cons ry rr =>
      obtain ⟨t, rfl⟩ := ry
      obtain ⟨l, rfl, e⟩ := ih rr
      exact ⟨(y, t) :: l, rfl, by rw [List.map_cons, e]⟩
theorem pe_joinRev {o e : Expr} {to : TE} {ta : TA} {apos pos p pos2 : Pos} (hc : X.calm = true) (ho : PE X o to) (hg : Gl X "reversed") (hm : X.mg "reversed" = none) (ha : PA X [e] ta)
    (hs1 : starEach [.Call (.Name "reversed" p) [e] [] pos2] X.env = [(false, eval (.Call (.Name "reversed" p) [e] [] pos2) X.env)] := by rfl) (hs : starEach [e] X.env = [(false, eval e X.env)] := by rfl)
    (hbase : attributeBase o "join" X.env (eval o X.env) = eval o X.env := by rfl) (hline : (apos.endLine == pos.line) = true := by rfl) :
    PE X (.Call (.Attribute o "join" apos) [.Call (.Name "reversed" p) [e] [] pos2] [] pos) (tJoinRev X.K to ta) := by
  refine ⟨fun pins s σ H Q I h => ?_⟩
  refine PySem.Call_method1 hbase hs1 hline (thn (ho.run pins s σ H _ I h) ?_)
  rintro v s1 ⟨x, H1, I1, r1, ⟨a, rfl⟩, q1⟩
  obtain ⟨t, rfl⟩ := _root_.id r1
  refine ⟨"str", _, PySem.F.plainAttrs_str, PySem.F.slot_str_join, PySem.F.type_str_join, typeIs_str _ _ _, (fun _ e => nomatch e), Calls.callWith_builtin rfl (Calls.evalArgs_plain (Calls.spliced_cons ?_))⟩
  refine wpAny_Call_Name_kw (ld_blt I1 hg hm PyProof.Rows.boot_reversed ?_)
  refine PyProof.Rows.callWith_type1 (thn (ha.run pos2 pins s1 σ H1 _ I1 q1) ?_) hs rfl
  rintro us s2 ⟨vs, H2, I2, r2, a', q, ys, ea, rfl, hq, hl, hok, hQ⟩
  cases ea
  cases r2 with
  | cons r rr =>
    cases rr
    cases r
    obtain ⟨its, rv, pl, _⟩ := I2.list hq
    obtain ⟨l, rfl, el⟩ := strs_of rv
    have hll : l.length = ys.length := by rw [← el, List.length_map]
    have hok' : JoinOk a (l.reverse.map (·.1)) = true := by rw [List.map_reverse, el]; exact hok
    refine wpAny_mono (join_rev (x := a) (t := t) (Q := EP X pins σ Q) (E := X.xe) (I2.ok.hd hc) pl.isList (by omega) hok' fun h' t' k hk => ⟨.str _, H2, I2.kept (t' := k) hk, ⟨t', by rw [List.map_reverse, el]⟩, hQ⟩) (fun v s4 h4 => Calls.spliced_nil h4) fun _ _ z => z
end
end Kin

set_option maxHeartbeats 4000000
/-! list(zip(a, b, c, d)), four lists of one length -/
namespace Kin
open PySem PySem.Spec PyProof.Rows L2
/-! ### the zip object of four list iterators: its cells are c 0 .. c 6 (the iterators, the tuple of them, the tuple it owns, itself) -/
abbrev IsT4 (h : Heap) (T : Addr) (a1 a2 a3 a4 : Value) : Prop := h.get? T = some { cls := .type "tuple", data := .seq #[a1, a2, a3, a4] }
structure Z4 (c : Nat → Addr) (l1 l2 l3 l4 : Addr) (i : Nat) (h : Heap) : Prop where
  ti : IsT4 h (c 4) (.ref (c 0)) (.ref (c 1)) (.ref (c 2)) (.ref (c 3))
  to : ∃ a1 a2 a3 a4, IsT4 h (c 5) a1 a2 a3 a4
  i1 : h.IsListIter (c 0) l1 i
  i2 : h.IsListIter (c 1) l2 i
  i3 : h.IsListIter (c 2) l3 i
  i4 : h.IsListIter (c 3) l4 i
/-- the four lists -/
structure L4 (l1 l2 l3 l4 : Addr) (y1 y2 y3 y4 : Array Value) (h : Heap) : Prop where
  l1 : h.IsList l1 y1
  l2 : h.IsList l2 y2
  l3 : h.IsList l3 y3
  l4 : h.IsList l4 y4
/-- the cells are all different, and none is one of the lists -/
structure Sep (c : Nat → Addr) (l1 l2 l3 l4 : Addr) : Prop where
  ne : ∀ a b, a ≠ b → c a ≠ c b
  n1 : ∀ a, l1 ≠ c a
  n2 : ∀ a, l2 ≠ c a
  n3 : ∀ a, l3 ≠ c a
  n4 : ∀ a, l4 ≠ c a
/-- the heap, but for the zip's own cells -/
def Kept (c : Nat → Addr) (h h' : Heap) : Prop := ∀ b o, (∀ a, a < 7 → b ≠ c a) → h.get? b = some o → h'.get? b = some o
section
variable {prog : Program} {w : World} {A : Around} {E : Value → Shared → Prop} {s : Shared} {c : Nat → Addr} {l1 l2 l3 l4 : Addr} {y1 y2 y3 y4 : Array Value} {i : Nat}
theorem upd4 {T : Addr} {a1 a2 a3 a4 x : Value} {k : Nat} {Q : Unit → Shared → Prop} (hT : IsT4 s.heap T a1 a2 a3 a4)
    (h : ∀ h', h'.get? T = some { cls := .type "tuple", data := .seq ((#[a1, a2, a3, a4] : Array Value).setIfInBounds k x) } → Heap.SameBut T s.heap h' → Q () { s with heap := h' }) :
    wpAny (model prog w) A (updateSeq T (·.setIfInBounds k x)) Q E s := by
  refine wpAny_updateSeq hT rfl (h _ ?_ (Heap.SameBut.update ..))
  rw [Heap.get?_update_self _ hT rfl]
  simp [Obj.mapSeq]
theorem next4_item {x1 x2 x3 x4 : Value} {Q : Value → Shared → Prop} (S : Sep c l1 l2 l3 l4) (hz : IsZip s.heap (c 6) (c 4) (c 5) .none) (Z : Z4 c l1 l2 l3 l4 i s.heap) (L : L4 l1 l2 l3 l4 y1 y2 y3 y4 s.heap) (e1 : y1[i]? = some x1) (e2 : y2[i]? = some x2) (e3 : y3[i]? = some x3) (e4 : y4[i]? = some x4)
    (hQ : ∀ h' tk, IsZipHeld h' (c 6) (c 4) (c 5) s.heap.objs.size false → Z4 c l1 l2 l3 l4 (i + 1) h' → IsT4 h' s.heap.objs.size x1 x2 x3 x4 →
      h'.objs.size = s.heap.objs.size + 1 → Kept c s.heap h' → Q (.ref s.heap.objs.size) { s with heap := h', toks := tk }) :
    wpAny (model prog w) A (Builtin.«zip.__next__» ⟨[.ref (c 6)], []⟩) (fun fin s' => ∃ v, fin = .done (.ret v) ∧ Q v s') E s := by
  obtain ⟨hp, g, d, tk0, os⟩ := s
  obtain ⟨hTI, ⟨a1, a2, a3, a4, hTO⟩, hi1, hi2, hi3, hi4⟩ := Z
  obtain ⟨hl1, hl2, hl3, hl4⟩ := L
  have hz : IsZip hp (c 6) (c 4) (c 5) .none := hz
  have hTI : IsT4 hp (c 4) (.ref (c 0)) (.ref (c 1)) (.ref (c 2)) (.ref (c 3)) := hTI
  have hTO : IsT4 hp (c 5) a1 a2 a3 a4 := hTO
  show wpAny _ _ (field (.ref (c 6)) 2 >>= _) _ _ _
  refine wpAny_bind (wpAny_field hz rfl (x := .bool false) rfl ?_)
  show wpAny _ _ (field (.ref (c 6)) 3 >>= _) _ _ _
  refine wpAny_bind (wpAny_field hz rfl (x := .ref (c 4)) rfl ?_)
  refine wpAny_bind (wpAny_seqItems hTI rfl ?_)
  show wpAny _ _ (Builtin.SmallTypes.ownedTupleIsFree (.ref (c 6)) >>= _) _ _ _
  refine wpAny_bind ?_
  unfold Builtin.SmallTypes.ownedTupleIsFree
  refine wpAny_bind (wpAny_field hz rfl (x := .none) rfl (wpAny_pure ?_))
  simp only [if_true]
  refine wpAny_bind (wpAny_rule ?_)
  refine wpAny_bind (wpAny_field hz rfl (x := .ref (c 5)) rfl ?_)
  refine wpAny_bind (wpAny_setField_rec hz (by simp) fun g0 hz0 hs0 => ?_)
  replace hz0 : IsZip g0 (c 6) (c 4) (c 5) .ellipsis := hz0
  replace hs0 : Heap.SameBut (c 6) hp g0 := hs0
  have hTO0 : IsT4 g0 (c 5) a1 a2 a3 a4 := (hs0.2 _ (S.ne _ _ (by decide))).trans hTO
  have hi1_0 : g0.IsListIter (c 0) l1 i := hi1.at fun o q => (hs0.2 _ (S.ne _ _ (by decide))).trans q
  have hl1_0 : g0.IsList l1 y1 := hl1.at fun o q => (hs0.2 _ (S.n1 _)).trans q
  have hi2_0 : g0.IsListIter (c 1) l2 i := hi2.at fun o q => (hs0.2 _ (S.ne _ _ (by decide))).trans q
  have hl2_0 : g0.IsList l2 y2 := hl2.at fun o q => (hs0.2 _ (S.n2 _)).trans q
  have hi3_0 : g0.IsListIter (c 2) l3 i := hi3.at fun o q => (hs0.2 _ (S.ne _ _ (by decide))).trans q
  have hl3_0 : g0.IsList l3 y3 := hl3.at fun o q => (hs0.2 _ (S.n3 _)).trans q
  have hi4_0 : g0.IsListIter (c 3) l4 i := hi4.at fun o q => (hs0.2 _ (S.ne _ _ (by decide))).trans q
  have hl4_0 : g0.IsList l4 y4 := hl4.at fun o q => (hs0.2 _ (S.n4 _)).trans q
  have hsz0 : g0.objs.size = hp.objs.size := hs0.1
  have hk0 : Kept c hp g0 := fun b o hb q => (hs0.2 b (hb 6 (by decide))).trans q
  have hti0 : IsT4 g0 (c 4) (.ref (c 0)) (.ref (c 1)) (.ref (c 2)) (.ref (c 3)) := (hs0.2 _ (S.ne _ _ (by decide))).trans hTI
  clear hs0 hz hTI hTO
  refine wpAny_bind ?_
  simp only [List.zipIdx_cons, List.zipIdx_nil, List.forIn_cons, List.forIn_nil]
  -- the iterator 1
  refine wpAny_bind (wpAny_bind (wpAny_onRaise ?_))
  show wpAny _ _ (Builtin.SmallTypes.nextOf (.ref (c 0)) >>= _) _ _ ⟨g0, g, d, tk0, os⟩
  refine wpAny_bind (wpAny_nextOf_list_item (s := ⟨g0, g, d, tk0, os⟩) hi1_0 hl1_0 e1 fun q1 hi1_q hs1 => wpAny_pure ?_)
  replace hs1 : Heap.SameBut (c 0) g0 q1 := hs1
  have hU1 : IsT4 q1 (c 5) a1 a2 a3 a4 := (hs1.2 _ (S.ne _ _ (by decide))).trans hTO0
  refine wpAny_bind (wpAny_seqItems (s := ⟨q1, g, d, tk0, os⟩) hU1 rfl ?_)
  refine wpAny_bind (upd4 (s := ⟨q1, g, d, tk0, os⟩) hU1 fun g1 hTO1 hr1 => ?_)
  replace hTO1 : IsT4 g1 (c 5) x1 a2 a3 a4 := hTO1
  replace hr1 : Heap.SameBut (c 5) q1 g1 := hr1
  have hz1 : IsZip g1 (c 6) (c 4) (c 5) .ellipsis := (hr1.2 _ (S.ne _ _ (by decide))).trans ((hs1.2 _ (S.ne _ _ (by decide))).trans hz0)
  have hsz1 : g1.objs.size = hp.objs.size := by rw [hr1.1, hs1.1, hsz0]
  have hk1 : Kept c hp g1 := fun b o hb q => (hr1.2 b (hb 5 (by decide))).trans ((hs1.2 b (hb 0 (by decide))).trans (hk0 b o hb q))
  have hi1_1 : g1.IsListIter (c 0) l1 (i + 1) := hi1_q.at fun o q => (hr1.2 _ (S.ne _ _ (by decide))).trans q
  have hi2_1 : g1.IsListIter (c 1) l2 i := hi2_0.at fun o q => (hr1.2 _ (S.ne _ _ (by decide))).trans ((hs1.2 _ (S.ne _ _ (by decide))).trans q)
  have hl2_1 : g1.IsList l2 y2 := hl2_0.at fun o q => (hr1.2 _ (S.n2 _)).trans ((hs1.2 _ (S.n2 _)).trans q)
  have hi3_1 : g1.IsListIter (c 2) l3 i := hi3_0.at fun o q => (hr1.2 _ (S.ne _ _ (by decide))).trans ((hs1.2 _ (S.ne _ _ (by decide))).trans q)
  have hl3_1 : g1.IsList l3 y3 := hl3_0.at fun o q => (hr1.2 _ (S.n3 _)).trans ((hs1.2 _ (S.n3 _)).trans q)
  have hi4_1 : g1.IsListIter (c 3) l4 i := hi4_0.at fun o q => (hr1.2 _ (S.ne _ _ (by decide))).trans ((hs1.2 _ (S.ne _ _ (by decide))).trans q)
  have hl4_1 : g1.IsList l4 y4 := hl4_0.at fun o q => (hr1.2 _ (S.n4 _)).trans ((hs1.2 _ (S.n4 _)).trans q)
  have hti1 : IsT4 g1 (c 4) (.ref (c 0)) (.ref (c 1)) (.ref (c 2)) (.ref (c 3)) := (hr1.2 _ (S.ne _ _ (by decide))).trans ((hs1.2 _ (S.ne _ _ (by decide))).trans hti0)
  clear hs1 hr1 hU1 hz0 hk0 hsz0 hTO0
  refine wpAny_bind (wpAny_letGo (wpAny_pure ?_))
  -- the iterator 2
  refine wpAny_bind (wpAny_bind (wpAny_onRaise ?_))
  show wpAny _ _ (Builtin.SmallTypes.nextOf (.ref (c 1)) >>= _) _ _ ⟨g1, g, d, tk0, os⟩
  refine wpAny_bind (wpAny_nextOf_list_item (s := ⟨g1, g, d, tk0, os⟩) hi2_1 hl2_1 e2 fun q2 hi2_q hs2 => wpAny_pure ?_)
  replace hs2 : Heap.SameBut (c 1) g1 q2 := hs2
  have hU2 : IsT4 q2 (c 5) x1 a2 a3 a4 := (hs2.2 _ (S.ne _ _ (by decide))).trans hTO1
  refine wpAny_bind (wpAny_seqItems (s := ⟨q2, g, d, tk0, os⟩) hU2 rfl ?_)
  refine wpAny_bind (upd4 (s := ⟨q2, g, d, tk0, os⟩) hU2 fun g2 hTO2 hr2 => ?_)
  replace hTO2 : IsT4 g2 (c 5) x1 x2 a3 a4 := hTO2
  replace hr2 : Heap.SameBut (c 5) q2 g2 := hr2
  have hz2 : IsZip g2 (c 6) (c 4) (c 5) .ellipsis := (hr2.2 _ (S.ne _ _ (by decide))).trans ((hs2.2 _ (S.ne _ _ (by decide))).trans hz1)
  have hsz2 : g2.objs.size = hp.objs.size := by rw [hr2.1, hs2.1, hsz1]
  have hk2 : Kept c hp g2 := fun b o hb q => (hr2.2 b (hb 5 (by decide))).trans ((hs2.2 b (hb 1 (by decide))).trans (hk1 b o hb q))
  have hi1_2 : g2.IsListIter (c 0) l1 (i + 1) := hi1_1.at fun o q => (hr2.2 _ (S.ne _ _ (by decide))).trans ((hs2.2 _ (S.ne _ _ (by decide))).trans q)
  have hi2_2 : g2.IsListIter (c 1) l2 (i + 1) := hi2_q.at fun o q => (hr2.2 _ (S.ne _ _ (by decide))).trans q
  have hi3_2 : g2.IsListIter (c 2) l3 i := hi3_1.at fun o q => (hr2.2 _ (S.ne _ _ (by decide))).trans ((hs2.2 _ (S.ne _ _ (by decide))).trans q)
  have hl3_2 : g2.IsList l3 y3 := hl3_1.at fun o q => (hr2.2 _ (S.n3 _)).trans ((hs2.2 _ (S.n3 _)).trans q)
  have hi4_2 : g2.IsListIter (c 3) l4 i := hi4_1.at fun o q => (hr2.2 _ (S.ne _ _ (by decide))).trans ((hs2.2 _ (S.ne _ _ (by decide))).trans q)
  have hl4_2 : g2.IsList l4 y4 := hl4_1.at fun o q => (hr2.2 _ (S.n4 _)).trans ((hs2.2 _ (S.n4 _)).trans q)
  have hti2 : IsT4 g2 (c 4) (.ref (c 0)) (.ref (c 1)) (.ref (c 2)) (.ref (c 3)) := (hr2.2 _ (S.ne _ _ (by decide))).trans ((hs2.2 _ (S.ne _ _ (by decide))).trans hti1)
  clear hs2 hr2 hU2 hz1 hk1 hsz1 hTO1
  refine wpAny_bind (wpAny_letGo (wpAny_pure ?_))
  -- the iterator 3
  refine wpAny_bind (wpAny_bind (wpAny_onRaise ?_))
  show wpAny _ _ (Builtin.SmallTypes.nextOf (.ref (c 2)) >>= _) _ _ ⟨g2, g, d, tk0, os⟩
  refine wpAny_bind (wpAny_nextOf_list_item (s := ⟨g2, g, d, tk0, os⟩) hi3_2 hl3_2 e3 fun q3 hi3_q hs3 => wpAny_pure ?_)
  replace hs3 : Heap.SameBut (c 2) g2 q3 := hs3
  have hU3 : IsT4 q3 (c 5) x1 x2 a3 a4 := (hs3.2 _ (S.ne _ _ (by decide))).trans hTO2
  refine wpAny_bind (wpAny_seqItems (s := ⟨q3, g, d, tk0, os⟩) hU3 rfl ?_)
  refine wpAny_bind (upd4 (s := ⟨q3, g, d, tk0, os⟩) hU3 fun g3 hTO3 hr3 => ?_)
  replace hTO3 : IsT4 g3 (c 5) x1 x2 x3 a4 := hTO3
  replace hr3 : Heap.SameBut (c 5) q3 g3 := hr3
  have hz3 : IsZip g3 (c 6) (c 4) (c 5) .ellipsis := (hr3.2 _ (S.ne _ _ (by decide))).trans ((hs3.2 _ (S.ne _ _ (by decide))).trans hz2)
  have hsz3 : g3.objs.size = hp.objs.size := by rw [hr3.1, hs3.1, hsz2]
  have hk3 : Kept c hp g3 := fun b o hb q => (hr3.2 b (hb 5 (by decide))).trans ((hs3.2 b (hb 2 (by decide))).trans (hk2 b o hb q))
  have hi1_3 : g3.IsListIter (c 0) l1 (i + 1) := hi1_2.at fun o q => (hr3.2 _ (S.ne _ _ (by decide))).trans ((hs3.2 _ (S.ne _ _ (by decide))).trans q)
  have hi2_3 : g3.IsListIter (c 1) l2 (i + 1) := hi2_2.at fun o q => (hr3.2 _ (S.ne _ _ (by decide))).trans ((hs3.2 _ (S.ne _ _ (by decide))).trans q)
  have hi3_3 : g3.IsListIter (c 2) l3 (i + 1) := hi3_q.at fun o q => (hr3.2 _ (S.ne _ _ (by decide))).trans q
  have hi4_3 : g3.IsListIter (c 3) l4 i := hi4_2.at fun o q => (hr3.2 _ (S.ne _ _ (by decide))).trans ((hs3.2 _ (S.ne _ _ (by decide))).trans q)
  have hl4_3 : g3.IsList l4 y4 := hl4_2.at fun o q => (hr3.2 _ (S.n4 _)).trans ((hs3.2 _ (S.n4 _)).trans q)
  have hti3 : IsT4 g3 (c 4) (.ref (c 0)) (.ref (c 1)) (.ref (c 2)) (.ref (c 3)) := (hr3.2 _ (S.ne _ _ (by decide))).trans ((hs3.2 _ (S.ne _ _ (by decide))).trans hti2)
  clear hs3 hr3 hU3 hz2 hk2 hsz2 hTO2
  refine wpAny_bind (wpAny_letGo (wpAny_pure ?_))
  -- the iterator 4
  refine wpAny_bind (wpAny_bind (wpAny_onRaise ?_))
  show wpAny _ _ (Builtin.SmallTypes.nextOf (.ref (c 3)) >>= _) _ _ ⟨g3, g, d, tk0, os⟩
  refine wpAny_bind (wpAny_nextOf_list_item (s := ⟨g3, g, d, tk0, os⟩) hi4_3 hl4_3 e4 fun q4 hi4_q hs4 => wpAny_pure ?_)
  replace hs4 : Heap.SameBut (c 3) g3 q4 := hs4
  have hU4 : IsT4 q4 (c 5) x1 x2 x3 a4 := (hs4.2 _ (S.ne _ _ (by decide))).trans hTO3
  refine wpAny_bind (wpAny_seqItems (s := ⟨q4, g, d, tk0, os⟩) hU4 rfl ?_)
  refine wpAny_bind (upd4 (s := ⟨q4, g, d, tk0, os⟩) hU4 fun g4 hTO4 hr4 => ?_)
  replace hTO4 : IsT4 g4 (c 5) x1 x2 x3 x4 := hTO4
  replace hr4 : Heap.SameBut (c 5) q4 g4 := hr4
  have hz4 : IsZip g4 (c 6) (c 4) (c 5) .ellipsis := (hr4.2 _ (S.ne _ _ (by decide))).trans ((hs4.2 _ (S.ne _ _ (by decide))).trans hz3)
  have hsz4 : g4.objs.size = hp.objs.size := by rw [hr4.1, hs4.1, hsz3]
  have hk4 : Kept c hp g4 := fun b o hb q => (hr4.2 b (hb 5 (by decide))).trans ((hs4.2 b (hb 3 (by decide))).trans (hk3 b o hb q))
  have hi1_4 : g4.IsListIter (c 0) l1 (i + 1) := hi1_3.at fun o q => (hr4.2 _ (S.ne _ _ (by decide))).trans ((hs4.2 _ (S.ne _ _ (by decide))).trans q)
  have hi2_4 : g4.IsListIter (c 1) l2 (i + 1) := hi2_3.at fun o q => (hr4.2 _ (S.ne _ _ (by decide))).trans ((hs4.2 _ (S.ne _ _ (by decide))).trans q)
  have hi3_4 : g4.IsListIter (c 2) l3 (i + 1) := hi3_3.at fun o q => (hr4.2 _ (S.ne _ _ (by decide))).trans ((hs4.2 _ (S.ne _ _ (by decide))).trans q)
  have hi4_4 : g4.IsListIter (c 3) l4 (i + 1) := hi4_q.at fun o q => (hr4.2 _ (S.ne _ _ (by decide))).trans q
  have hti4 : IsT4 g4 (c 4) (.ref (c 0)) (.ref (c 1)) (.ref (c 2)) (.ref (c 3)) := (hr4.2 _ (S.ne _ _ (by decide))).trans ((hs4.2 _ (S.ne _ _ (by decide))).trans hti3)
  clear hs4 hr4 hU4 hz3 hk3 hsz3 hTO3
  refine wpAny_bind (wpAny_letGo (wpAny_pure (wpAny_pure ?_)))
  refine wpAny_bind (wpAny_seqItems (s := ⟨g4, g, d, tk0, os⟩) hTO4 rfl ?_)
  refine wpAny_bind (wpAny_newTuple ?_)
  have hzlt : c 6 < g4.objs.size := Heap.lt_size hz4
  show wpAny _ _ (Builtin.SmallTypes.ownedTupleHandOut (.ref (c 6)) (.ref g4.objs.size) >>= _) _ _ ⟨g4.push { cls := .type "tuple", data := .seq #[x1, x2, x3, x4] }, g, d, tk0, os⟩
  refine wpAny_bind ?_
  unfold Builtin.SmallTypes.ownedTupleHandOut
  have hz5 : IsZip (g4.push { cls := .type "tuple", data := .seq #[x1, x2, x3, x4] }) (c 6) (c 4) (c 5) .ellipsis := Heap.get?_push_of_some _ hz4
  refine wpAny_bind (wpAny_setField_rec hz5 (by simp) fun h7 hz7 hs7 => ?_)
  replace hz7 : IsZip h7 (c 6) (c 4) (c 5) (rawInt g4.objs.size) := hz7
  refine wpAny_setField_rec hz7 (by simp) fun h8 hz8 hs8 => ?_
  replace hz8 : IsZip h8 (c 6) (c 4) (c 5) (rawInt g4.objs.size) := hz8
  replace hs7 : Heap.SameBut (c 6) (g4.push { cls := .type "tuple", data := .seq #[x1, x2, x3, x4] }) h7 := hs7
  replace hs8 : Heap.SameBut (c 6) h7 h8 := hs8
  have up : ∀ b o, b ≠ c 6 → g4.get? b = some o → h8.get? b = some o := fun b o hb q => (hs8.2 b hb).trans ((hs7.2 b hb).trans (Heap.get?_push_of_some _ q))
  have hT8 : IsT4 h8 g4.objs.size x1 x2 x3 x4 := (hs8.2 _ (Nat.ne_of_gt hzlt)).trans ((hs7.2 _ (Nat.ne_of_gt hzlt)).trans (Heap.get?_push_size _ rfl))
  have hn8 : h8.objs.size = g4.objs.size + 1 := by rw [hs8.1, hs7.1, Heap.size_push]
  rw [hsz4] at hz8 hT8 hn8
  refine wpAny_pure ⟨_, rfl, ?_⟩
  show Q (.ref g4.objs.size) ⟨h8, g, d, tk0, os⟩
  rw [hsz4]
  exact hQ h8 tk0 hz8 ⟨up _ _ (S.ne _ _ (by decide)) hti4, ⟨x1, x2, x3, x4, up _ _ (S.ne _ _ (by decide)) hTO4⟩, hi1_4.at fun o q => up _ _ (S.ne _ _ (by decide)) q, hi2_4.at fun o q => up _ _ (S.ne _ _ (by decide)) q, hi3_4.at fun o q => up _ _ (S.ne _ _ (by decide)) q, hi4_4.at fun o q => up _ _ (S.ne _ _ (by decide)) q⟩
    hT8 hn8 fun b o hb q => up b o (hb 6 (by decide)) (hk4 b o hb q)
theorem next4_end {Q : Fin → Shared → Prop} (hh : A.handled = none) (S : Sep c l1 l2 l3 l4) (hz : IsZip s.heap (c 6) (c 4) (c 5) .none) (Z : Z4 c l1 l2 l3 l4 i s.heap) (hl1 : s.heap.IsList l1 y1) (e1 : y1[i]? = none)
    (hE : ∀ h' tk e, Kept c s.heap h' → (∃ o, h'.get? e = some o ∧ o.cls = .type "StopIteration") → E (.ref e) { s with heap := h', toks := tk }) :
    wpAny (model prog w) A (Builtin.«zip.__next__» ⟨[.ref (c 6)], []⟩) Q E s := by
  obtain ⟨hp, g, d, tk0, os⟩ := s
  obtain ⟨hTI, ⟨a1, a2, a3, a4, hTO⟩, hi1, _, _, _⟩ := Z
  have hz : IsZip hp (c 6) (c 4) (c 5) .none := hz
  have hTI : IsT4 hp (c 4) (.ref (c 0)) (.ref (c 1)) (.ref (c 2)) (.ref (c 3)) := hTI
  show wpAny _ _ (field (.ref (c 6)) 2 >>= _) _ _ _
  refine wpAny_bind (wpAny_field hz rfl (x := .bool false) rfl ?_)
  show wpAny _ _ (field (.ref (c 6)) 3 >>= _) _ _ _
  refine wpAny_bind (wpAny_field hz rfl (x := .ref (c 4)) rfl ?_)
  refine wpAny_bind (wpAny_seqItems hTI rfl ?_)
  show wpAny _ _ (Builtin.SmallTypes.ownedTupleIsFree (.ref (c 6)) >>= _) _ _ _
  refine wpAny_bind ?_
  unfold Builtin.SmallTypes.ownedTupleIsFree
  refine wpAny_bind (wpAny_field hz rfl (x := .none) rfl (wpAny_pure ?_))
  simp only [if_true]
  refine wpAny_bind (wpAny_rule ?_)
  refine wpAny_bind (wpAny_field hz rfl (x := .ref (c 5)) rfl ?_)
  refine wpAny_bind (wpAny_setField_rec hz (by simp) fun g0 hz0 hs0 => ?_)
  replace hz0 : IsZip g0 (c 6) (c 4) (c 5) .ellipsis := hz0
  replace hs0 : Heap.SameBut (c 6) hp g0 := hs0
  have hi1' : g0.IsListIter (c 0) l1 i := hi1.at fun o q => (hs0.2 _ (S.ne _ _ (by decide))).trans q
  have hl1' : g0.IsList l1 y1 := hl1.at fun o q => (hs0.2 _ (S.n1 _)).trans q
  refine wpAny_bind ?_
  simp only [List.zipIdx_cons, List.zipIdx_nil, List.forIn_cons, List.forIn_nil]
  refine wpAny_bind (wpAny_bind (wpAny_onRaise ?_))
  show wpAny _ _ (Builtin.SmallTypes.nextOf (.ref (c 0)) >>= _) _ _ ⟨g0, g, d, tk0, os⟩
  refine wpAny_bind (wpAny_nextOf_list_end (s := ⟨g0, g, d, tk0, os⟩) hh hi1' hl1' e1 fun q e hq he => ?_)
  replace hq : Heap.ExtBut (c 0) g0 q := hq
  obtain ⟨oe, hoe, hce⟩ := he
  have hzq : IsZip q (c 6) (c 4) (c 5) .ellipsis := hq _ _ (S.ne _ _ (by decide)) hz0
  have hez : e ≠ c 6 := fun x => by subst x; rw [hzq] at hoe; cases hoe; simp at hce
  refine wpAny_setField_rec (s := ⟨q, g, d, tk0, os⟩) hzq (by simp) fun q' _ hq' => ?_
  replace hq' : Heap.SameBut (c 6) q q' := hq'
  exact hE q' tk0 e (fun b o hb x => (hq'.2 b (hb 6 (by decide))).trans (hq _ _ (hb 0 (by decide)) ((hs0.2 b (hb 6 (by decide))).trans x))) ⟨oe, (hq'.2 e hez).trans hoe, hce⟩
theorem next4_held {T : Addr} {f : Bool} {oT : Obj} {x1 x2 x3 x4 : Value} {Q : Value → Shared → Prop} (S : Sep c l1 l2 l3 l4) (hz : IsZipHeld s.heap (c 6) (c 4) (c 5) T f) (hT : s.heap.get? T = some oT) (Z : Z4 c l1 l2 l3 l4 i s.heap)
    (L : L4 l1 l2 l3 l4 y1 y2 y3 y4 s.heap) (e1 : y1[i]? = some x1) (e2 : y2[i]? = some x2) (e3 : y3[i]? = some x3) (e4 : y4[i]? = some x4)
    (hQ : ∀ h', IsZipHeld h' (c 6) (c 4) (c 5) T true → Z4 c l1 l2 l3 l4 (i + 1) h' → IsT4 h' s.heap.objs.size x1 x2 x3 x4 → h'.objs.size = s.heap.objs.size + 1 → Kept c s.heap h' → Q (.ref s.heap.objs.size) { s with heap := h' }) :
    wpAny (model prog w) A (Builtin.«zip.__next__» ⟨[.ref (c 6)], []⟩) (fun fin s' => ∃ v, fin = .done (.ret v) ∧ Q v s') E s := by
  obtain ⟨hp, g, d, tk0, os⟩ := s
  obtain ⟨hTI, ⟨a1, a2, a3, a4, hTO⟩, hi1, hi2, hi3, hi4⟩ := Z
  obtain ⟨hl1, hl2, hl3, hl4⟩ := L
  have hz : IsZipHeld hp (c 6) (c 4) (c 5) T f := hz
  have hTI : IsT4 hp (c 4) (.ref (c 0)) (.ref (c 1)) (.ref (c 2)) (.ref (c 3)) := hTI
  have hTO : IsT4 hp (c 5) a1 a2 a3 a4 := hTO
  show wpAny _ _ (field (.ref (c 6)) 2 >>= _) _ _ _
  refine wpAny_bind (wpAny_field hz rfl (x := .bool false) rfl ?_)
  show wpAny _ _ (field (.ref (c 6)) 3 >>= _) _ _ _
  refine wpAny_bind (wpAny_field hz rfl (x := .ref (c 4)) rfl ?_)
  refine wpAny_bind (wpAny_seqItems hTI rfl ?_)
  show wpAny _ _ (Builtin.SmallTypes.ownedTupleIsFree (.ref (c 6)) >>= _) _ _ _
  refine wpAny_bind (wpAny_tupleHeld_zip hz hT fun g0 hz0 hs0 => ?_)
  replace hs0 : Heap.SameBut (c 6) hp g0 := hs0
  have hTO0 : IsT4 g0 (c 5) a1 a2 a3 a4 := (hs0.2 _ (S.ne _ _ (by decide))).trans hTO
  have hti0 : IsT4 g0 (c 4) (.ref (c 0)) (.ref (c 1)) (.ref (c 2)) (.ref (c 3)) := (hs0.2 _ (S.ne _ _ (by decide))).trans hTI
  have hi1_0 : g0.IsListIter (c 0) l1 i := hi1.at fun o q => (hs0.2 _ (S.ne _ _ (by decide))).trans q
  have hl1_0 : g0.IsList l1 y1 := hl1.at fun o q => (hs0.2 _ (S.n1 _)).trans q
  have hi2_0 : g0.IsListIter (c 1) l2 i := hi2.at fun o q => (hs0.2 _ (S.ne _ _ (by decide))).trans q
  have hl2_0 : g0.IsList l2 y2 := hl2.at fun o q => (hs0.2 _ (S.n2 _)).trans q
  have hi3_0 : g0.IsListIter (c 2) l3 i := hi3.at fun o q => (hs0.2 _ (S.ne _ _ (by decide))).trans q
  have hl3_0 : g0.IsList l3 y3 := hl3.at fun o q => (hs0.2 _ (S.n3 _)).trans q
  have hi4_0 : g0.IsListIter (c 3) l4 i := hi4.at fun o q => (hs0.2 _ (S.ne _ _ (by decide))).trans q
  have hl4_0 : g0.IsList l4 y4 := hl4.at fun o q => (hs0.2 _ (S.n4 _)).trans q
  have hsz0 : g0.objs.size = hp.objs.size := hs0.1
  have hk0 : Kept c hp g0 := fun b o hb q => (hs0.2 b (hb 6 (by decide))).trans q
  clear hs0 hz hTI hTO
  simp only [Bool.false_eq_true, if_false]
  refine wpAny_bind ?_
  rw [← Array.forIn_toList]
  simp only [List.forIn_cons, List.forIn_nil]
  -- the iterator 1
  refine wpAny_bind (wpAny_bind (wpAny_holding ?_))
  show wpAny _ _ (Builtin.SmallTypes.nextOf (.ref (c 0)) >>= _) _ _ _
  refine wpAny_bind (wpAny_nextOf_list_item (s := ⟨g0, g, d, tk0, os⟩) hi1_0 hl1_0 e1 fun g1 hi1_1 hs1 => wpAny_pure ?_)
  refine wpAny_pure ?_
  replace hs1 : Heap.SameBut (c 0) g0 g1 := hs1
  have hTO1 : IsT4 g1 (c 5) a1 a2 a3 a4 := (hs1.2 _ (S.ne _ _ (by decide))).trans hTO0
  have hti1 : IsT4 g1 (c 4) (.ref (c 0)) (.ref (c 1)) (.ref (c 2)) (.ref (c 3)) := (hs1.2 _ (S.ne _ _ (by decide))).trans hti0
  have hz1 : IsZipHeld g1 (c 6) (c 4) (c 5) T true := (hs1.2 _ (S.ne _ _ (by decide))).trans hz0
  have hsz1 : g1.objs.size = hp.objs.size := by rw [hs1.1, hsz0]
  have hk1 : Kept c hp g1 := fun b o hb q => (hs1.2 b (hb 0 (by decide))).trans (hk0 b o hb q)
  have hi2_1 : g1.IsListIter (c 1) l2 i := hi2_0.at fun o q => (hs1.2 _ (S.ne _ _ (by decide))).trans q
  have hl2_1 : g1.IsList l2 y2 := hl2_0.at fun o q => (hs1.2 _ (S.n2 _)).trans q
  have hi3_1 : g1.IsListIter (c 2) l3 i := hi3_0.at fun o q => (hs1.2 _ (S.ne _ _ (by decide))).trans q
  have hl3_1 : g1.IsList l3 y3 := hl3_0.at fun o q => (hs1.2 _ (S.n3 _)).trans q
  have hi4_1 : g1.IsListIter (c 3) l4 i := hi4_0.at fun o q => (hs1.2 _ (S.ne _ _ (by decide))).trans q
  have hl4_1 : g1.IsList l4 y4 := hl4_0.at fun o q => (hs1.2 _ (S.n4 _)).trans q
  clear hs1 hz0 hk0 hsz0 hTO0 hti0
  -- the iterator 2
  refine wpAny_bind (wpAny_bind (wpAny_holding ?_))
  show wpAny _ _ (Builtin.SmallTypes.nextOf (.ref (c 1)) >>= _) _ _ _
  refine wpAny_bind (wpAny_nextOf_list_item (s := ⟨g1, g, d, tk0, os⟩) hi2_1 hl2_1 e2 fun g2 hi2_2 hs2 => wpAny_pure ?_)
  refine wpAny_pure ?_
  replace hs2 : Heap.SameBut (c 1) g1 g2 := hs2
  have hTO2 : IsT4 g2 (c 5) a1 a2 a3 a4 := (hs2.2 _ (S.ne _ _ (by decide))).trans hTO1
  have hti2 : IsT4 g2 (c 4) (.ref (c 0)) (.ref (c 1)) (.ref (c 2)) (.ref (c 3)) := (hs2.2 _ (S.ne _ _ (by decide))).trans hti1
  have hz2 : IsZipHeld g2 (c 6) (c 4) (c 5) T true := (hs2.2 _ (S.ne _ _ (by decide))).trans hz1
  have hsz2 : g2.objs.size = hp.objs.size := by rw [hs2.1, hsz1]
  have hk2 : Kept c hp g2 := fun b o hb q => (hs2.2 b (hb 1 (by decide))).trans (hk1 b o hb q)
  have hi1_2 : g2.IsListIter (c 0) l1 (i + 1) := hi1_1.at fun o q => (hs2.2 _ (S.ne _ _ (by decide))).trans q
  have hi3_2 : g2.IsListIter (c 2) l3 i := hi3_1.at fun o q => (hs2.2 _ (S.ne _ _ (by decide))).trans q
  have hl3_2 : g2.IsList l3 y3 := hl3_1.at fun o q => (hs2.2 _ (S.n3 _)).trans q
  have hi4_2 : g2.IsListIter (c 3) l4 i := hi4_1.at fun o q => (hs2.2 _ (S.ne _ _ (by decide))).trans q
  have hl4_2 : g2.IsList l4 y4 := hl4_1.at fun o q => (hs2.2 _ (S.n4 _)).trans q
  clear hs2 hz1 hk1 hsz1 hTO1 hti1
  -- the iterator 3
  refine wpAny_bind (wpAny_bind (wpAny_holding ?_))
  show wpAny _ _ (Builtin.SmallTypes.nextOf (.ref (c 2)) >>= _) _ _ _
  refine wpAny_bind (wpAny_nextOf_list_item (s := ⟨g2, g, d, tk0, os⟩) hi3_2 hl3_2 e3 fun g3 hi3_3 hs3 => wpAny_pure ?_)
  refine wpAny_pure ?_
  replace hs3 : Heap.SameBut (c 2) g2 g3 := hs3
  have hTO3 : IsT4 g3 (c 5) a1 a2 a3 a4 := (hs3.2 _ (S.ne _ _ (by decide))).trans hTO2
  have hti3 : IsT4 g3 (c 4) (.ref (c 0)) (.ref (c 1)) (.ref (c 2)) (.ref (c 3)) := (hs3.2 _ (S.ne _ _ (by decide))).trans hti2
  have hz3 : IsZipHeld g3 (c 6) (c 4) (c 5) T true := (hs3.2 _ (S.ne _ _ (by decide))).trans hz2
  have hsz3 : g3.objs.size = hp.objs.size := by rw [hs3.1, hsz2]
  have hk3 : Kept c hp g3 := fun b o hb q => (hs3.2 b (hb 2 (by decide))).trans (hk2 b o hb q)
  have hi1_3 : g3.IsListIter (c 0) l1 (i + 1) := hi1_2.at fun o q => (hs3.2 _ (S.ne _ _ (by decide))).trans q
  have hi2_3 : g3.IsListIter (c 1) l2 (i + 1) := hi2_2.at fun o q => (hs3.2 _ (S.ne _ _ (by decide))).trans q
  have hi4_3 : g3.IsListIter (c 3) l4 i := hi4_2.at fun o q => (hs3.2 _ (S.ne _ _ (by decide))).trans q
  have hl4_3 : g3.IsList l4 y4 := hl4_2.at fun o q => (hs3.2 _ (S.n4 _)).trans q
  clear hs3 hz2 hk2 hsz2 hTO2 hti2
  -- the iterator 4
  refine wpAny_bind (wpAny_bind (wpAny_holding ?_))
  show wpAny _ _ (Builtin.SmallTypes.nextOf (.ref (c 3)) >>= _) _ _ _
  refine wpAny_bind (wpAny_nextOf_list_item (s := ⟨g3, g, d, tk0, os⟩) hi4_3 hl4_3 e4 fun g4 hi4_4 hs4 => wpAny_pure ?_)
  refine wpAny_pure (wpAny_pure ?_)
  replace hs4 : Heap.SameBut (c 3) g3 g4 := hs4
  have hTO4 : IsT4 g4 (c 5) a1 a2 a3 a4 := (hs4.2 _ (S.ne _ _ (by decide))).trans hTO3
  have hti4 : IsT4 g4 (c 4) (.ref (c 0)) (.ref (c 1)) (.ref (c 2)) (.ref (c 3)) := (hs4.2 _ (S.ne _ _ (by decide))).trans hti3
  have hz4 : IsZipHeld g4 (c 6) (c 4) (c 5) T true := (hs4.2 _ (S.ne _ _ (by decide))).trans hz3
  have hsz4 : g4.objs.size = hp.objs.size := by rw [hs4.1, hsz3]
  have hk4 : Kept c hp g4 := fun b o hb q => (hs4.2 b (hb 3 (by decide))).trans (hk3 b o hb q)
  have hi1_4 : g4.IsListIter (c 0) l1 (i + 1) := hi1_3.at fun o q => (hs4.2 _ (S.ne _ _ (by decide))).trans q
  have hi2_4 : g4.IsListIter (c 1) l2 (i + 1) := hi2_3.at fun o q => (hs4.2 _ (S.ne _ _ (by decide))).trans q
  have hi3_4 : g4.IsListIter (c 2) l3 (i + 1) := hi3_3.at fun o q => (hs4.2 _ (S.ne _ _ (by decide))).trans q
  clear hs4 hz3 hk3 hsz3 hTO3 hti3
  show wpAny _ _ (newTuple [x1, x2, x3, x4] >>= _) _ _ _
  refine wpAny_bind (wpAny_newTuple ?_)
  refine wpAny_pure ⟨_, rfl, ?_⟩
  show Q (.ref g4.objs.size) _
  have up : ∀ b o, g4.get? b = some o → (g4.push { cls := .type "tuple", data := .seq #[x1, x2, x3, x4] }).get? b = some o := fun b o q => Heap.get?_push_of_some _ q
  have hT8 : IsT4 (g4.push { cls := .type "tuple", data := .seq #[x1, x2, x3, x4] }) g4.objs.size x1 x2 x3 x4 := Heap.get?_push_size _ rfl
  have hn8 : (g4.push { cls := .type "tuple", data := .seq #[x1, x2, x3, x4] }).objs.size = g4.objs.size + 1 := Heap.size_push ..
  rw [hsz4] at hT8 hn8 ⊢
  exact hQ _ (up _ _ hz4) ⟨up _ _ hti4, ⟨a1, a2, a3, a4, up _ _ hTO4⟩, hi1_4.at fun o q => up _ _ q, hi2_4.at fun o q => up _ _ q, hi3_4.at fun o q => up _ _ q, hi4_4.at fun o q => up _ _ q⟩ hT8 hn8 fun b o hb q => up b o (hk4 b o hb q)
theorem end4_held {T : Addr} {f : Bool} {oT : Obj} {Q : Fin → Shared → Prop} (hh : A.handled = none) (S : Sep c l1 l2 l3 l4) (hz : IsZipHeld s.heap (c 6) (c 4) (c 5) T f) (hT : s.heap.get? T = some oT) (Z : Z4 c l1 l2 l3 l4 i s.heap)
    (hl1 : s.heap.IsList l1 y1) (e1 : y1[i]? = none)
    (hE : ∀ h' e, Kept c s.heap h' → (∃ o, h'.get? e = some o ∧ o.cls = .type "StopIteration") → E (.ref e) { s with heap := h' }) :
    wpAny (model prog w) A (Builtin.«zip.__next__» ⟨[.ref (c 6)], []⟩) Q E s := by
  obtain ⟨hTI, _, hi1, _, _, _⟩ := Z
  show wpAny _ _ (field (.ref (c 6)) 2 >>= _) _ _ _
  refine wpAny_bind (wpAny_field hz rfl (x := .bool false) rfl ?_)
  show wpAny _ _ (field (.ref (c 6)) 3 >>= _) _ _ _
  refine wpAny_bind (wpAny_field hz rfl (x := .ref (c 4)) rfl ?_)
  refine wpAny_bind (wpAny_seqItems hTI rfl ?_)
  show wpAny _ _ (Builtin.SmallTypes.ownedTupleIsFree (.ref (c 6)) >>= _) _ _ _
  refine wpAny_bind (wpAny_tupleHeld_zip hz hT fun g0 hz0 hs0 => ?_)
  simp only [Bool.false_eq_true, if_false]
  refine wpAny_bind ?_
  rw [← Array.forIn_toList]
  simp only [List.forIn_cons, List.forIn_nil]
  refine wpAny_bind (wpAny_bind (wpAny_holding ?_))
  show wpAny _ _ (Builtin.SmallTypes.nextOf (.ref (c 0)) >>= _) _ _ _
  refine wpAny_bind (wpAny_nextOf_list_end (s := { s with heap := g0 }) hh (hi1.at fun o q => (hs0.2 _ (S.ne _ _ (by decide))).trans q) (hl1.at fun o q => (hs0.2 _ (S.n1 _)).trans q) e1 fun h2 e hs2 he => ?_)
  exact hE h2 e (fun b o hb q => hs2 _ _ (hb 0 (by decide)) ((hs0.2 b (hb 6 (by decide))).trans q)) he
end
end Kin

set_option maxHeartbeats 4000000
namespace Kin
open PySem PySem.Spec PyProof.Rows L2
theorem nolen_zip : typeLookup (.type "zip") "__len__" = pure none := by rw [typeLookup_type, builtinLookup_eq_fast]; kernel_rfl
theorem nohint_zip : typeLookup (.type "zip") "__length_hint__" = pure none := by rw [typeLookup_type, builtinLookup_eq_fast]; kernel_rfl
/-- what the zip knows of the first tuple that it gave out -/
def Zout (c : Nat → Addr) (h : Heap) : List Addr → Prop
  | [] => IsZip h (c 6) (c 4) (c 5) .none
  | T :: _ => ∃ f, IsZipHeld h (c 6) (c 4) (c 5) T f
/-- the tuples made so far -/
structure Rows4 (c : Nat → Addr) (N D : Addr) (y1 y2 y3 y4 : Array Value) (Ts : List Addr) (h : Heap) : Prop where
  nd : Ts.Nodup
  at_ : ∀ (j : Nat) (T : Addr), Ts[j]? = some T → N ≤ T ∧ T ≠ D ∧ (∀ a, a < 7 → T ≠ c a) ∧ ∃ x1 x2 x3 x4, y1[j]? = some x1 ∧ y2[j]? = some x2 ∧ y3[j]? = some x3 ∧ y4[j]? = some x4 ∧ IsT4 h T x1 x2 x3 x4
theorem Rows4.lt {c : Nat → Addr} {N D : Addr} {y1 y2 y3 y4 : Array Value} {Ts : List Addr} {h : Heap} (r : Rows4 c N D y1 y2 y3 y4 Ts h) {T : Addr} (m : T ∈ Ts) : T < h.objs.size := by
  obtain ⟨j, hj⟩ := List.getElem?_of_mem m
  obtain ⟨_, _, _, _, _, _, _, _, _, _, _, e⟩ := r.at_ j T hj
  exact Heap.lt_size e
section
variable {prog : Program} {w : World} {A : Around} {E : Value → Shared → Prop} {c : Nat → Addr} {l1 l2 l3 l4 : Addr} {y1 y2 y3 y4 : Array Value} {R : Result → Shared → Prop}
/-- one more tuple -/
theorem pyNext4 {s : Shared} {N D : Addr} {Ts : List Addr} {i : Nat} {x1 x2 x3 x4 : Value} {Q : Option Value → Shared → Prop} (S : Sep c l1 l2 l3 l4) (Z : Z4 c l1 l2 l3 l4 i s.heap) (O : Zout c s.heap Ts) (W : Rows4 c N D y1 y2 y3 y4 Ts s.heap) (L : L4 l1 l2 l3 l4 y1 y2 y3 y4 s.heap)
    (e1 : y1[i]? = some x1) (e2 : y2[i]? = some x2) (e3 : y3[i]? = some x3) (e4 : y4[i]? = some x4)
    (hQ : ∀ h' tk, Z4 c l1 l2 l3 l4 (i + 1) h' → Zout c h' (Ts ++ [s.heap.objs.size]) → IsT4 h' s.heap.objs.size x1 x2 x3 x4 → h'.objs.size = s.heap.objs.size + 1 → Kept c s.heap h' → Q (some (.ref s.heap.objs.size)) { s with heap := h', toks := tk }) :
    wpAny (model prog w) A (pyNext (.ref (c 6))) Q E s := by
  cases Ts with
  | nil =>
    have hz : IsZip s.heap (c 6) (c 4) (c 5) .none := O
    have hT : s.TypeIs (.ref (c 6)) "zip" := ⟨_, hz, rfl⟩
    unfold pyNext
    exact wpAny_bind (wpAny_attempt (wpAny_callSpecial?_slot (name := Str.ofString "__next__") hT PySem.F.slot_zip_next
      (wpAny_call_entry PySem.F.slot_zip_next hT PySem.F.entry_zip_next (next4_item S hz Z L e1 e2 e3 e4 fun h' tk a1 a2 a3 a4 a5 => wpAny_pure (hQ h' tk a2 ⟨_, a1⟩ a3 a4 a5)) (PySem.F.args_zip_next_1 _))))
  | cons T r =>
    obtain ⟨f, hz⟩ := (show ∃ f, IsZipHeld s.heap (c 6) (c 4) (c 5) T f from O)
    have hT : s.TypeIs (.ref (c 6)) "zip" := ⟨_, hz, rfl⟩
    obtain ⟨_, _, _, _, _, _, _, _, _, _, _, hT0⟩ := W.at_ 0 T rfl
    unfold pyNext
    exact wpAny_bind (wpAny_attempt (wpAny_callSpecial?_slot (name := Str.ofString "__next__") hT PySem.F.slot_zip_next
      (wpAny_call_entry PySem.F.slot_zip_next hT PySem.F.entry_zip_next (next4_held S hz hT0 Z L e1 e2 e3 e4 fun h' a1 a2 a3 a4 a5 => wpAny_pure (hQ h' s.toks a2 ⟨_, a1⟩ a3 a4 a5)) (PySem.F.args_zip_next_1 _))))
/-- no more -/
theorem pyNext4_end {s : Shared} {N D : Addr} {Ts : List Addr} {i : Nat} {Q : Option Value → Shared → Prop} (hh : A.handled = none) (S : Sep c l1 l2 l3 l4) (Z : Z4 c l1 l2 l3 l4 i s.heap) (O : Zout c s.heap Ts) (W : Rows4 c N D y1 y2 y3 y4 Ts s.heap) (L : L4 l1 l2 l3 l4 y1 y2 y3 y4 s.heap)
    (e1 : y1[i]? = none) (hQ : ∀ h' tk, Kept c s.heap h' → Q none { s with heap := h', toks := tk }) :
    wpAny (model prog w) A (pyNext (.ref (c 6))) Q E s := by
  cases Ts with
  | nil =>
    have hz : IsZip s.heap (c 6) (c 4) (c 5) .none := O
    have hT : s.TypeIs (.ref (c 6)) "zip" := ⟨_, hz, rfl⟩
    unfold pyNext
    refine wpAny_bind (wpAny_attempt (wpAny_callSpecial?_slot (name := Str.ofString "__next__") hT PySem.F.slot_zip_next
      (wpAny_call_entry PySem.F.slot_zip_next hT PySem.F.entry_zip_next (next4_end hh S hz Z L.l1 e1 fun h' tk e hk he => ?_) (PySem.F.args_zip_next_1 _))))
    obtain ⟨o, ho, hc⟩ := he
    exact wpAny_bind (wpAny_isInstance (T := "StopIteration") (b := true) ⟨o, ho, hc⟩ isSubtype_stop (wpAny_pure (hQ _ _ hk)))
  | cons T r =>
    obtain ⟨f, hz⟩ := (show ∃ f, IsZipHeld s.heap (c 6) (c 4) (c 5) T f from O)
    have hT : s.TypeIs (.ref (c 6)) "zip" := ⟨_, hz, rfl⟩
    obtain ⟨_, _, _, _, _, _, _, _, _, _, _, hT0⟩ := W.at_ 0 T rfl
    unfold pyNext
    refine wpAny_bind (wpAny_attempt (wpAny_callSpecial?_slot (name := Str.ofString "__next__") hT PySem.F.slot_zip_next
      (wpAny_call_entry PySem.F.slot_zip_next hT PySem.F.entry_zip_next (end4_held hh S hz hT0 Z L.l1 e1 fun h' e hk he => ?_) (PySem.F.args_zip_next_1 _))))
    obtain ⟨o, ho, hc⟩ := he
    exact wpAny_bind (wpAny_isInstance (T := "StopIteration") (b := true) ⟨o, ho, hc⟩ isSubtype_stop (wpAny_pure (hQ _ s.toks hk)))
/-- the list that is filled -/
abbrev Fill (h : Heap) (D : Addr) (Ts : List Addr) : Prop := ∃ cap, h.get? D = some { cls := .type "list", dict := none, data := .seq (Ts.map Value.ref).toArray cap, slots := #[] }
/-- what stands behind the loop -/
structure Done4 (c : Nat → Addr) (N D : Addr) (y1 y2 y3 y4 : Array Value) (s s' : Shared) (Ts : List Addr) : Prop where
  len : Ts.length = y1.size
  lst : Fill s'.heap D Ts
  rows : Rows4 c N D y1 y2 y3 y4 Ts s'.heap
  old : ∀ b o, b < N → s.heap.get? b = some o → s'.heap.get? b = some o
  gens : s'.gens = s.gens
  drawn : s'.drawn = s.drawn
  os : s'.os = s.os
theorem loop4 (hh : A.handled = none) (S : Sep c l1 l2 l3 l4) {N D : Addr} {res : Value} (hc : ∀ a, N ≤ c a) (hD : N ≤ D) (hDc : ∀ a, a < 7 → D ≠ c a) (h1 : l1 < N) (h2 : l2 < N) (h3 : l3 < N) (h4 : l4 < N) (z2 : y2.size = y1.size) (z3 : y3.size = y1.size) (z4 : y4.size = y1.size) (hz : y1.size ≤ 1000000) :
    ∀ (k i : Nat) (s : Shared) (Ts : List Addr), y1.size - i = k → i ≤ y1.size → Ts.length = i → Fill s.heap D Ts → Z4 c l1 l2 l3 l4 i s.heap → Zout c s.heap Ts → Rows4 c N D y1 y2 y3 y4 Ts s.heap → L4 l1 l2 l3 l4 y1 y2 y3 y4 s.heap → D < s.heap.objs.size →
      (∀ s' Ts', Done4 c N D y1 y2 y3 y4 s s' Ts' → R (.ok (.ret res)) s') → codeAny (model prog w) A (.builtin "list.extend.loop" ⟨[.ref D, .ref (c 6), res], []⟩) R s := by
  have hsl := sizeLine_eq
  intro k
  induction k with
  | zero =>
    intro i s Ts hk hi hT hF Z O W L hDs hR
    have hin : i = y1.size := by omega
    refine codeAny_builtin PySem.F.entry_extend_loop ?_
    rw [Around.under_plainId PySem.F.plain_extend_loop _]
    show wpAny _ A.in1 (pyNext (.ref (c 6)) >>= _) _ _ s
    refine wpAny_bind (pyNext4_end hh S Z O W L (by simp [hin]) fun h' tk hk => ?_)
    have out : ∀ b o, (∀ a, a < 7 → b ≠ c a) → s.heap.get? b = some o → h'.get? b = some o := fun b o hb q => hk b o hb q
    refine wpAny_pure (hR _ Ts ⟨by omega, ?_, ⟨W.nd, fun j T e => ?_⟩, fun b o hb q => out b o (fun a _ => Nat.ne_of_lt (Nat.lt_of_lt_of_le hb (hc a))) q, rfl, rfl, rfl⟩)
    · obtain ⟨cap, e⟩ := hF
      exact ⟨cap, out _ _ hDc e⟩
    · obtain ⟨q1, q2, q3, u1, u2, u3, u4, w1, w2, w3, w4, q4⟩ := W.at_ j T e
      exact ⟨q1, q2, q3, u1, u2, u3, u4, w1, w2, w3, w4, hk _ _ q3 q4⟩
  | succ k ih =>
    intro i s Ts hk hi hT hF Z O W L hDs hR
    have hlt : i < y1.size := by omega
    refine codeAny_builtin PySem.F.entry_extend_loop ?_
    rw [Around.under_plainId PySem.F.plain_extend_loop _]
    show wpAny _ A.in1 (pyNext (.ref (c 6)) >>= _) _ _ s
    have e1 : y1[i]? = some y1[i] := by simp [hlt]
    have e2 : y2[i]? = some (y2[i]'(by omega)) := by simp
    have e3 : y3[i]? = some (y3[i]'(by omega)) := by simp
    have e4 : y4[i]? = some (y4[i]'(by omega)) := by simp
    refine wpAny_bind (pyNext4 S Z O W L e1 e2 e3 e4 fun h' tk Z' O' hT' hsz hkp => ?_)
    obtain ⟨cap, hF⟩ := hF
    have hF' : h'.get? D = some { cls := .type "list", dict := none, data := .seq (Ts.map Value.ref).toArray cap, slots := #[] } := hkp _ _ hDc hF
    show wpAny _ A.in1 (updateSeq D (·.push (.ref s.heap.objs.size)) >>= _) _ _ _
    refine wpAny_bind ?_
    have hgs : (Ts.map Value.ref).toArray.size = i := by simp [hT]
    refine wpAny_updateSeq hF' rfl (wpAny_pure ⟨plainId_quiet PySem.F.plain_extend_loop _, ?_⟩) (by rw [hgs]; omega) (by show ((Ts.map Value.ref).toArray.push (.ref s.heap.objs.size)).size ≤ sizeLine + 1; rw [Array.size_push, hgs]; omega)
    have oth : ∀ b o, b ≠ D → h'.get? b = some o → (h'.update D (Obj.mapSeq (·.push (.ref s.heap.objs.size)))).get? b = some o := fun b o hb q => (Heap.get?_update_other _ _ (Ne.symm hb)).trans q
    have hself := Heap.get?_update_self (Obj.mapSeq (·.push (Value.ref s.heap.objs.size))) hF' rfl
    have hns : ∀ a, a < 7 → s.heap.objs.size ≠ c a := by
      intro a ha e
      have z0 : c a < s.heap.objs.size := by
        have hzz : ∃ o, s.heap.get? (c 6) = some o := by
          cases Ts with
          | nil => exact ⟨_, (show IsZip s.heap (c 6) (c 4) (c 5) .none from O)⟩
          | cons T r =>
            obtain ⟨f, q⟩ := (show ∃ f, IsZipHeld s.heap (c 6) (c 4) (c 5) T f from O)
            exact ⟨_, q⟩
        obtain ⟨oz, hzz⟩ := hzz
        obtain ⟨b1, b2, b3, b4, hto⟩ := Z.to
        obtain ⟨o1, g1, _⟩ := Z.i1
        obtain ⟨o2, g2, _⟩ := Z.i2
        obtain ⟨o3, g3, _⟩ := Z.i3
        obtain ⟨o4, g4, _⟩ := Z.i4
        match a, ha with
        | 0, _ => exact Heap.lt_size g1
        | 1, _ => exact Heap.lt_size g2
        | 2, _ => exact Heap.lt_size g3
        | 3, _ => exact Heap.lt_size g4
        | 4, _ => exact Heap.lt_size Z.ti
        | 5, _ => exact Heap.lt_size hto
        | 6, _ => exact Heap.lt_size hzz
      rw [← e] at z0
      exact Nat.lt_irrefl _ z0
    have hFill : Fill (h'.update D (Obj.mapSeq (·.push (.ref s.heap.objs.size)))) D (Ts ++ [s.heap.objs.size]) := by
      have e : ((Ts.map Value.ref).toArray.push (Value.ref s.heap.objs.size)) = ((Ts ++ [s.heap.objs.size]).map Value.ref).toArray := by simp
      show ∃ cap, Heap.get? _ D = some { cls := .type "list", dict := none, data := .seq ((Ts ++ [s.heap.objs.size]).map Value.ref).toArray cap, slots := #[] }
      rw [← e]
      exact ⟨_, hself⟩
    refine ih (i + 1) _ (Ts ++ [s.heap.objs.size]) (by omega) hlt (by rw [List.length_append, hT]; rfl) hFill ?_ ?_ ⟨?_, ?_⟩ ?_ ?_ fun s' Ts' d => hR s' Ts' ⟨d.len, d.lst, d.rows, fun b o hb q => d.old b o hb ?_, d.gens, d.drawn, d.os⟩
    · obtain ⟨q1, ⟨b1, b2, b3, b4, q2⟩, q3, q4, q5, q6⟩ := Z'
      exact ⟨oth _ _ (Ne.symm (hDc 4 (by decide))) q1, ⟨b1, b2, b3, b4, oth _ _ (Ne.symm (hDc 5 (by decide))) q2⟩, q3.at fun o q => oth _ _ (Ne.symm (hDc 0 (by decide))) q, q4.at fun o q => oth _ _ (Ne.symm (hDc 1 (by decide))) q, q5.at fun o q => oth _ _ (Ne.symm (hDc 2 (by decide))) q, q6.at fun o q => oth _ _ (Ne.symm (hDc 3 (by decide))) q⟩
    · cases Ts with
      | nil =>
        obtain ⟨f, q⟩ := (show ∃ f, IsZipHeld h' (c 6) (c 4) (c 5) s.heap.objs.size f from O')
        exact ⟨f, oth _ _ (Ne.symm (hDc 6 (by decide))) q⟩
      | cons T r =>
        obtain ⟨f, q⟩ := (show ∃ f, IsZipHeld h' (c 6) (c 4) (c 5) T f from O')
        exact ⟨f, oth _ _ (Ne.symm (hDc 6 (by decide))) q⟩
    · rw [List.nodup_append]
      refine ⟨W.nd, by simp, fun a ha b hb => ?_⟩
      rw [List.mem_singleton.mp hb]
      exact Nat.ne_of_lt (W.lt ha)
    · intro j T e
      by_cases hj : j < Ts.length
      · rw [List.getElem?_append_left hj] at e
        obtain ⟨q1, q2, q3, u1, u2, u3, u4, w1, w2, w3, w4, q4⟩ := W.at_ j T e
        exact ⟨q1, q2, q3, u1, u2, u3, u4, w1, w2, w3, w4, oth _ _ q2 (hkp _ _ q3 q4)⟩
      · have ej : j = i := by
          have := (List.getElem?_eq_some_iff.mp e).1
          rw [List.length_append] at this
          simp at this
          omega
        subst ej
        rw [List.getElem?_append_right (by omega), hT, Nat.sub_self] at e
        cases e
        exact ⟨Nat.le_of_lt (Nat.lt_of_le_of_lt hD hDs), Nat.ne_of_gt hDs, hns, _, _, _, _, e1, e2, e3, e4, oth _ _ (Nat.ne_of_gt hDs) hT'⟩
    · obtain ⟨q1, q2, q3, q4⟩ := L
      have kl : ∀ {l : Addr} {ys : Array Value}, l < N → s.heap.IsList l ys → (h'.update D (Obj.mapSeq (·.push (.ref s.heap.objs.size)))).IsList l ys := fun hl q => q.at fun o e => oth _ _ (Nat.ne_of_lt (Nat.lt_of_lt_of_le hl hD)) (hkp _ _ (fun a _ => Nat.ne_of_lt (Nat.lt_of_lt_of_le hl (hc a))) e)
      exact ⟨kl h1 q1, kl h2 q2, kl h3 q3, kl h4 q4⟩
    · have : (h'.update D (Obj.mapSeq (·.push (.ref s.heap.objs.size)))).objs.size = h'.objs.size := Heap.size_update ..
      show D < (h'.update D (Obj.mapSeq (·.push (.ref s.heap.objs.size)))).objs.size
      rw [this, hsz]
      exact Nat.lt_succ_of_lt hDs
    · exact oth _ _ (Nat.ne_of_lt (Nat.lt_of_lt_of_le hb hD)) (hkp _ _ (fun a _ => Nat.ne_of_lt (Nat.lt_of_lt_of_le hb (hc a))) q)
/-- D.extend(the zip), D new -/
theorem extend4 {s : Shared} {N D : Addr} {res : Value} {cap : Nat} (hh : A.handled = none) (S : Sep c l1 l2 l3 l4) (hc : ∀ a, N ≤ c a) (hD : N ≤ D) (hDc : ∀ a, a < 7 → D ≠ c a) (h1 : l1 < N) (h2 : l2 < N) (h3 : l3 < N) (h4 : l4 < N) (z2 : y2.size = y1.size) (z3 : y3.size = y1.size)
    (z4 : y4.size = y1.size) (hz : y1.size ≤ 1000000) (hF : s.heap.get? D = some { cls := .type "list", dict := none, data := .seq #[] cap, slots := #[] }) (Z : Z4 c l1 l2 l3 l4 0 s.heap) (O : IsZip s.heap (c 6) (c 4) (c 5) .none) (L : L4 l1 l2 l3 l4 y1 y2 y3 y4 s.heap)
    (hR : ∀ s' Ts', Done4 c N D y1 y2 y3 y4 s s' Ts' → R (.ok (.ret res)) s') :
    wpAny (model prog w) A.in1 (Builtin.List.listExtendWith (.ref D) (.ref (c 6)) res)
      (fun fin s' => match fin with | .done f => R (.ok f) s' | .again c' => c'.quiet = true ∧ codeAny (model prog w) A c' R s') (fun e s' => R (.error e) s') s := by
  have hT : s.TypeIs (.ref (c 6)) "zip" := ⟨_, O, rfl⟩
  unfold Builtin.List.listExtendWith
  refine wpAny_bind (wpAny_typeOf hT ?_)
  have a1 : Builtin.List.listSameRef (.ref D) (.ref (c 6)) = false := by simp [Builtin.List.listSameRef, hDc 6 (by decide)]
  have a2 : (Value.type "zip" == Value.type "list") = false := by decide
  have a3 : (Value.type "zip" == Value.type "tuple") = false := by decide
  simp only [a1, a2, a3, Bool.or_false, Bool.false_eq_true, if_false]
  refine wpAny_bind (wpAny_pyIter_zip O ?_)
  refine wpAny_bind (wpAny_holding ?_)
  unfold Builtin.List.listLengthHint
  refine wpAny_bind (wpAny_specialOf hT nolen_zip ?_)
  show wpAny _ A.in1 (specialOf (Value.ref (c 6)) (Str.ofString "__length_hint__") >>= _) _ _ _
  refine wpAny_bind (wpAny_specialOf hT nohint_zip ?_)
  refine wpAny_pure ?_
  show wpAny _ A.in1 (rule "list.extend.makes-room" >>= fun _ => Builtin.List.listTouch (.ref D) >>= fun _ => again (.builtin "list.extend.loop" ⟨[.ref D, .ref (c 6), res], []⟩)) _ _ _
  refine wpAny_bind (wpAny_rule (wpAny_bind ?_))
  show wpAny _ A.in1 (updateSeq D (·.push .none) >>= fun _ => updateSeq D (·.pop)) _ _ _
  refine wpAny_bind (wpAny_updateSeq hF rfl ?_)
  have f2 := Heap.get?_update_self (Obj.mapSeq (·.push Value.none)) hF rfl
  refine wpAny_updateSeq (hz := by seq_fits) f2 rfl ?_
  have f3 := Heap.get?_update_self (Obj.mapSeq (·.pop)) f2 rfl
  have oth : ∀ b o, b ≠ D → s.heap.get? b = some o → ((s.heap.update D (Obj.mapSeq (·.push Value.none))).update D (Obj.mapSeq (·.pop))).get? b = some o :=
    fun b o hb q => (Heap.get?_update_other _ _ (Ne.symm hb)).trans ((Heap.get?_update_other _ _ (Ne.symm hb)).trans q)
  have hs : ((s.heap.update D (Obj.mapSeq (·.push Value.none))).update D (Obj.mapSeq (·.pop))).objs.size = s.heap.objs.size := (Heap.size_update ..).trans (Heap.size_update ..)
  refine wpAny_pure ⟨plainId_quiet PySem.F.plain_extend_loop _, loop4 hh S hc hD hDc h1 h2 h3 h4 z2 z3 z4 hz _ 0 _ [] rfl (Nat.zero_le _) rfl ⟨_, f3⟩ ?_ (oth _ _ (Ne.symm (hDc 6 (by decide))) O) ⟨List.nodup_nil, fun j T e => by simp at e⟩ ?_ ?_ fun s' Ts' d => hR s' Ts' ⟨d.len, d.lst, d.rows, fun b o hb q => d.old b o hb (oth _ _ (Nat.ne_of_lt (Nat.lt_of_lt_of_le hb hD)) q), d.gens, d.drawn, d.os⟩⟩
  · obtain ⟨q1, ⟨b1, b2, b3, b4, q2⟩, q3, q4, q5, q6⟩ := Z
    exact ⟨oth _ _ (Ne.symm (hDc 4 (by decide))) q1, ⟨b1, b2, b3, b4, oth _ _ (Ne.symm (hDc 5 (by decide))) q2⟩, q3.at fun o q => oth _ _ (Ne.symm (hDc 0 (by decide))) q, q4.at fun o q => oth _ _ (Ne.symm (hDc 1 (by decide))) q, q5.at fun o q => oth _ _ (Ne.symm (hDc 2 (by decide))) q, q6.at fun o q => oth _ _ (Ne.symm (hDc 3 (by decide))) q⟩
  · obtain ⟨q1, q2, q3, q4⟩ := L
    have kl : ∀ {l : Addr} {ys : Array Value}, l < N → s.heap.IsList l ys → ((s.heap.update D (Obj.mapSeq (·.push Value.none))).update D (Obj.mapSeq (·.pop))).IsList l ys := fun hl q => q.at fun o e => oth _ _ (Nat.ne_of_lt (Nat.lt_of_lt_of_le hl hD)) e
    exact ⟨kl h1 q1, kl h2 q2, kl h3 q3, kl h4 q4⟩
  · show D < ((s.heap.update D (Obj.mapSeq (·.push Value.none))).update D (Obj.mapSeq (·.pop))).objs.size
    rw [hs]
    exact Heap.lt_size hF
end
section
variable {prog : Program} {w : World} {A : Around} {E : Value → Shared → Prop} {l1 l2 l3 l4 : Addr} {y1 y2 y3 y4 : Array Value}
/-- list(the zip) -/
theorem call_list4 {s : Shared} {c : Nat → Addr} {N : Addr} {Q : Value → Shared → Prop} (hh : A.handled = none) (S : Sep c l1 l2 l3 l4) (hc : ∀ a, N ≤ c a) (hcs : ∀ a, a < 7 → c a < s.heap.objs.size) (h1 : l1 < N) (h2 : l2 < N) (h3 : l3 < N) (h4 : l4 < N) (z2 : y2.size = y1.size)
    (z3 : y3.size = y1.size) (z4 : y4.size = y1.size) (hz : y1.size ≤ 1000000) (hN : N ≤ s.heap.objs.size) (Z : Z4 c l1 l2 l3 l4 0 s.heap) (O : IsZip s.heap (c 6) (c 4) (c 5) .none) (L : L4 l1 l2 l3 l4 y1 y2 y3 y4 s.heap)
    (hQ : ∀ s' D Ts', N ≤ D → Done4 c N D y1 y2 y3 y4 s s' Ts' → Q (.ref D) s') : wpAny (model prog w) A (call (.type "list") [.ref (c 6)]) Q E s := by
  refine callType_codes (Q₁ := fun obj s₁ => obj = .ref s.heap.objs.size ∧ s₁ = { s with heap := s.heap.push { cls := .type "list", data := .seq #[] } }) PySem.F.called_list (PySem.F.typeCall_list_1 _) PySem.F.entry_list_init
    (code_list_new _ ⟨rfl, rfl⟩) fun obj s₁ e => ?_
  obtain ⟨rfl, rfl⟩ := e
  have up : ∀ b o, s.heap.get? b = some o → (s.heap.push { cls := .type "list", data := .seq #[] }).get? b = some o := fun b o q => Heap.get?_push_of_some _ q
  have f0 : (s.heap.push { cls := .type "list", data := .seq #[] }).get? s.heap.objs.size = some { cls := .type "list", data := .seq #[] } := Heap.get?_push_size _ rfl
  refine ⟨⟨_, f0, rfl⟩, PySem.F.args_list_init_2 _ _, ?_⟩
  show wpAny _ _ (do let old ← Builtin.List.listItems (.ref s.heap.objs.size); Builtin.List.listUpdate (.ref s.heap.objs.size) (fun _ => #[]); letGo old.toList.reverse; Builtin.List.listExtendWith (.ref s.heap.objs.size) (.ref (c 6)) .none) _ _ _
  refine wpAny_bind ?_
  unfold Builtin.List.listItems
  refine wpAny_bind (wpAny_seqItems f0 rfl (wpAny_pure ?_))
  show wpAny _ _ (updateSeq s.heap.objs.size (fun _ => #[]) >>= fun _ => letGo (#[] : Array Value).toList.reverse >>= fun _ => Builtin.List.listExtendWith (.ref s.heap.objs.size) (.ref (c 6)) .none) _ _ _
  refine wpAny_bind (wpAny_updateSeq f0 rfl ?_)
  have f1 := Heap.get?_update_self (Obj.mapSeq (fun _ => (#[] : Array Value))) f0 rfl
  have oth : ∀ b o, b ≠ s.heap.objs.size → s.heap.get? b = some o → ((s.heap.push { cls := .type "list", data := .seq #[] }).update s.heap.objs.size (Obj.mapSeq (fun _ => (#[] : Array Value)))).get? b = some o :=
    fun b o hb q => (Heap.get?_update_other _ _ (Ne.symm hb)).trans (up b o q)
  have hDc : ∀ a, a < 7 → s.heap.objs.size ≠ c a := fun a ha => Nat.ne_of_gt (hcs a ha)
  refine wpAny_bind (wpAny_letGo ?_)
  refine extend4 (s := { s with heap := (s.heap.push { cls := .type "list", data := .seq #[] }).update s.heap.objs.size (Obj.mapSeq (fun _ => (#[] : Array Value))) }) hh S hc hN hDc h1 h2 h3 h4 z2 z3 z4 hz f1 ?_ (oth _ _ (Ne.symm (hDc 6 (by decide))) O) ?_
    fun s' Ts' d => ⟨rfl, hQ s' _ Ts' hN ⟨d.len, d.lst, d.rows, fun b o hb q => d.old b o hb (oth _ _ (Nat.ne_of_lt (Nat.lt_of_lt_of_le hb hN)) q), d.gens, d.drawn, d.os⟩⟩
  · obtain ⟨q1, ⟨b1, b2, b3, b4, q2⟩, q3, q4, q5, q6⟩ := Z
    exact ⟨oth _ _ (Ne.symm (hDc 4 (by decide))) q1, ⟨b1, b2, b3, b4, oth _ _ (Ne.symm (hDc 5 (by decide))) q2⟩, q3.at fun o q => oth _ _ (Ne.symm (hDc 0 (by decide))) q, q4.at fun o q => oth _ _ (Ne.symm (hDc 1 (by decide))) q, q5.at fun o q => oth _ _ (Ne.symm (hDc 2 (by decide))) q, q6.at fun o q => oth _ _ (Ne.symm (hDc 3 (by decide))) q⟩
  · obtain ⟨q1, q2, q3, q4⟩ := L
    exact ⟨q1.at fun o e => oth _ _ (Nat.ne_of_lt (Nat.lt_of_lt_of_le h1 hN)) e, q2.at fun o e => oth _ _ (Nat.ne_of_lt (Nat.lt_of_lt_of_le h2 hN)) e, q3.at fun o e => oth _ _ (Nat.ne_of_lt (Nat.lt_of_lt_of_le h3 hN)) e, q4.at fun o e => oth _ _ (Nat.ne_of_lt (Nat.lt_of_lt_of_le h4 hN)) e⟩
end
end Kin

set_option maxHeartbeats 4000000
namespace Kin
open PySem PySem.Spec PyProof.Rows L2
theorem typeCall_zip4 (a b c d : Value) : checkTypeCall "zip" ⟨[a, b, c, d], []⟩ = pure () := by kernel_rfl
theorem newCall_zip4 (a b c d : Value) : checkBuiltinCall "zip.__new__" ⟨[.type "zip", a, b, c, d], []⟩ = pure () := by kernel_rfl
theorem args_init5 (o a b c d : Value) : argsOk "object.__init__" ⟨[o, a, b, c, d], []⟩ := by unfold argsOk; kernel_rfl
abbrev lit (l : Addr) : Obj := { cls := .type "list_iterator", data := .fields #[.ref l, .int 0 0] }
abbrev hp1 (h : Heap) (l1 : Addr) : Heap := h.push (lit l1)
abbrev hp2 (h : Heap) (l1 l2 : Addr) : Heap := (hp1 h l1).push (lit l2)
abbrev hp3 (h : Heap) (l1 l2 l3 : Addr) : Heap := (hp2 h l1 l2).push (lit l3)
abbrev hp4 (h : Heap) (l1 l2 l3 l4 : Addr) : Heap := (hp3 h l1 l2 l3).push (lit l4)
abbrev hp5 (h : Heap) (l1 l2 l3 l4 : Addr) : Heap := (hp4 h l1 l2 l3 l4).push { cls := .type "tuple", data := .seq #[.ref h.objs.size, .ref (hp1 h l1).objs.size, .ref (hp2 h l1 l2).objs.size, .ref (hp3 h l1 l2 l3).objs.size] }
abbrev hp6 (h : Heap) (l1 l2 l3 l4 : Addr) : Heap := (hp5 h l1 l2 l3 l4).push { cls := .type "tuple", data := .seq #[.none, .none, .none, .none] }
abbrev hp7 (h : Heap) (l1 l2 l3 l4 : Addr) : Heap := (hp6 h l1 l2 l3 l4).push { cls := .type "zip", data := .fields #[.none, .bool false, .bool false, .ref (hp4 h l1 l2 l3 l4).objs.size, .ref (hp5 h l1 l2 l3 l4).objs.size] }
theorem meets_zip4 (l1 l2 l3 l4 : Addr) (y1 y2 y3 y4 : Array Value) :
    Meets (Builtin.«zip.__new__» ⟨[.type "zip", .ref l1, .ref l2, .ref l3, .ref l4], []⟩) (fun _ R s => L4 l1 l2 l3 l4 y1 y2 y3 y4 s.heap ∧ R (.ok (.ret (.ref (hp6 s.heap l1 l2 l3 l4).objs.size))) { s with heap := hp7 s.heap l1 l2 l3 l4 }) :=
  .of_wp fun prog w A R s h => by
    obtain ⟨hp, g, d, tk, os⟩ := s
    obtain ⟨⟨h1, h2, h3, h4⟩, h⟩ := h
    have hsub := sub_zip
    have u : ∀ {x : Heap} {o' : Obj} {l : Addr} {y : Array Value}, x.IsList l y → (x.push o').IsList l y := fun q => q.at fun o e => Heap.get?_push_of_some _ e
    have q1 : ∀ {A' : Around} {E : Value → Shared → Prop} {Q : Value → Shared → Prop}, Q (.ref hp.objs.size) ⟨hp1 hp l1, g, d, tk, os⟩ → wpAny (model prog w) A' (pyIter (.ref l1)) Q E ⟨hp, g, d, tk, os⟩ := fun q => wpAny_pyIter_list h1 q
    have q2 : ∀ {A' : Around} {E : Value → Shared → Prop} {Q : Value → Shared → Prop}, Q (.ref (hp1 hp l1).objs.size) ⟨hp2 hp l1 l2, g, d, tk, os⟩ → wpAny (model prog w) A' (pyIter (.ref l2)) Q E ⟨hp1 hp l1, g, d, tk, os⟩ := fun q => wpAny_pyIter_list (u h2) q
    have q3 : ∀ {A' : Around} {E : Value → Shared → Prop} {Q : Value → Shared → Prop}, Q (.ref (hp2 hp l1 l2).objs.size) ⟨hp3 hp l1 l2 l3, g, d, tk, os⟩ → wpAny (model prog w) A' (pyIter (.ref l3)) Q E ⟨hp2 hp l1 l2, g, d, tk, os⟩ := fun q => wpAny_pyIter_list (u (u h3)) q
    have q4 : ∀ {A' : Around} {E : Value → Shared → Prop} {Q : Value → Shared → Prop}, Q (.ref (hp3 hp l1 l2 l3).objs.size) ⟨hp4 hp l1 l2 l3 l4, g, d, tk, os⟩ → wpAny (model prog w) A' (pyIter (.ref l4)) Q E ⟨hp3 hp l1 l2 l3, g, d, tk, os⟩ := fun q => wpAny_pyIter_list (u (u (u h4))) q
    wp_walk using q1, q2, q3, q4
    exact ⟨_, rfl, h⟩
section
variable {prog : Program} {w : World} {A : Around} {E : Value → Shared → Prop} {s : Shared} {l1 l2 l3 l4 : Addr} {y1 y2 y3 y4 : Array Value}
theorem begin4 {Q : Value → Shared → Prop} (L : L4 l1 l2 l3 l4 y1 y2 y3 y4 s.heap)
    (h : ∀ h', IsZip h' (s.heap.objs.size + 6) (s.heap.objs.size + 4) (s.heap.objs.size + 5) .none → Z4 (fun k => s.heap.objs.size + k) l1 l2 l3 l4 0 h' → h'.objs.size = s.heap.objs.size + 7 → (∀ b o, s.heap.get? b = some o → h'.get? b = some o) → Q (.ref (s.heap.objs.size + 6)) { s with heap := h' }) :
    wpAny (model prog w) A (call (.type "zip") [.ref l1, .ref l2, .ref l3, .ref l4]) Q E s := by
  refine callType_new PySem.F.called_zip (by decide) (typeCall_zip4 _ _ _ _) (newCall_zip4 _ _ _ _) (fun obj => args_init5 obj _ _ _ _) PySem.F.entry_zip_new (meets_zip4 l1 l2 l3 l4 y1 y2 y3 y4) ⟨L, ?_⟩
  have z1 : (hp1 s.heap l1).objs.size = s.heap.objs.size + 1 := Heap.size_push ..
  have z2 : (hp2 s.heap l1 l2).objs.size = s.heap.objs.size + 2 := (Heap.size_push ..).trans (by rw [z1])
  have z3 : (hp3 s.heap l1 l2 l3).objs.size = s.heap.objs.size + 3 := (Heap.size_push ..).trans (by rw [z2])
  have z4 : (hp4 s.heap l1 l2 l3 l4).objs.size = s.heap.objs.size + 4 := (Heap.size_push ..).trans (by rw [z3])
  have z5 : (hp5 s.heap l1 l2 l3 l4).objs.size = s.heap.objs.size + 5 := (Heap.size_push ..).trans (by rw [z4])
  have z6 : (hp6 s.heap l1 l2 l3 l4).objs.size = s.heap.objs.size + 6 := (Heap.size_push ..).trans (by rw [z5])
  have z7 : (hp7 s.heap l1 l2 l3 l4).objs.size = s.heap.objs.size + 7 := (Heap.size_push ..).trans (by rw [z6])
  have p : ∀ {x : Heap} {o' o : Obj} {b : Addr}, x.get? b = some o → (x.push o').get? b = some o := fun q => Heap.get?_push_of_some _ q
  have gZ : (hp7 s.heap l1 l2 l3 l4).get? (hp6 s.heap l1 l2 l3 l4).objs.size = some { cls := .type "zip", data := .fields #[.none, .bool false, .bool false, .ref (hp4 s.heap l1 l2 l3 l4).objs.size, .ref (hp5 s.heap l1 l2 l3 l4).objs.size] } := Heap.get?_push_size _ rfl
  have gO : (hp7 s.heap l1 l2 l3 l4).get? (hp5 s.heap l1 l2 l3 l4).objs.size = some { cls := .type "tuple", data := .seq #[.none, .none, .none, .none] } := p (Heap.get?_push_size _ rfl)
  have gT : (hp7 s.heap l1 l2 l3 l4).get? (hp4 s.heap l1 l2 l3 l4).objs.size = some { cls := .type "tuple", data := .seq #[.ref s.heap.objs.size, .ref (hp1 s.heap l1).objs.size, .ref (hp2 s.heap l1 l2).objs.size, .ref (hp3 s.heap l1 l2 l3).objs.size] } := p (p (Heap.get?_push_size _ rfl))
  have g4 : (hp7 s.heap l1 l2 l3 l4).get? (hp3 s.heap l1 l2 l3).objs.size = some (lit l4) := p (p (p (Heap.get?_push_size _ rfl)))
  have g3 : (hp7 s.heap l1 l2 l3 l4).get? (hp2 s.heap l1 l2).objs.size = some (lit l3) := p (p (p (p (Heap.get?_push_size _ rfl))))
  have g2 : (hp7 s.heap l1 l2 l3 l4).get? (hp1 s.heap l1).objs.size = some (lit l2) := p (p (p (p (p (Heap.get?_push_size _ rfl)))))
  have g1 : (hp7 s.heap l1 l2 l3 l4).get? s.heap.objs.size = some (lit l1) := p (p (p (p (p (p (Heap.get?_push_size _ rfl))))))
  have kp : ∀ b o, s.heap.get? b = some o → (hp7 s.heap l1 l2 l3 l4).get? b = some o := fun b o q => p (p (p (p (p (p (p q))))))
  show _ ∧ _
  generalize hp7 s.heap l1 l2 l3 l4 = h' at z7 gZ gO gT g4 g3 g2 g1 kp ⊢
  rw [z6, z4, z5] at gZ
  rw [z5] at gO
  rw [z4, z1, z2, z3] at gT
  rw [z3] at g4
  rw [z2] at g3
  rw [z1] at g2
  rw [z6]
  exact ⟨⟨_, gZ, rfl⟩, h h' gZ ⟨gT, ⟨_, _, _, _, gO⟩, ⟨_, g1, rfl, rfl⟩, ⟨_, g2, rfl, rfl⟩, ⟨_, g3, rfl, rfl⟩, ⟨_, g4, rfl, rfl⟩⟩ z7 kp⟩
/-- list(zip(a, b, c, d)) -/
theorem list_zip4 {Q : Value → Shared → Prop} (hh : A.handled = none) (L : L4 l1 l2 l3 l4 y1 y2 y3 y4 s.heap) (z2 : y2.size = y1.size) (z3 : y3.size = y1.size) (z4 : y4.size = y1.size) (hz : y1.size ≤ 1000000)
    (hQ : ∀ s' D Ts, s.heap.objs.size ≤ D → Done4 (fun k => s.heap.objs.size + k) s.heap.objs.size D y1 y2 y3 y4 s s' Ts → Q (.ref D) s') :
    wpAny (model prog w) A (call (.type "zip") [.ref l1, .ref l2, .ref l3, .ref l4]) (fun v s1 => wpAny (model prog w) A (call (.type "list") [v]) Q E s1) E s := by
  have lt : ∀ {l : Addr} {y : Array Value}, s.heap.IsList l y → l < s.heap.objs.size := fun q => by
    obtain ⟨o, e, _⟩ := q
    exact Heap.lt_size e
  refine begin4 L fun h' hz' Z hs kp => ?_
  have S : Sep (fun k => s.heap.objs.size + k) l1 l2 l3 l4 := by
    have ll : ∀ {l : Addr} {y : Array Value}, s.heap.IsList l y → ∀ a, l ≠ s.heap.objs.size + a := fun q a => Nat.ne_of_lt (Nat.lt_of_lt_of_le (lt q) (Nat.le_add_right _ _))
    exact ⟨fun a b n e => n (Nat.add_left_cancel e), ll L.l1, ll L.l2, ll L.l3, ll L.l4⟩
  have L' : L4 l1 l2 l3 l4 y1 y2 y3 y4 h' := ⟨L.l1.at fun o e => kp _ _ e, L.l2.at fun o e => kp _ _ e, L.l3.at fun o e => kp _ _ e, L.l4.at fun o e => kp _ _ e⟩
  refine call_list4 (s := { s with heap := h' }) (c := fun k => s.heap.objs.size + k) (N := s.heap.objs.size) hh S (fun a => Nat.le_add_right _ _) (fun a ha => ?_) (lt L.l1) (lt L.l2) (lt L.l3) (lt L.l4) z2 z3 z4 hz ?_ Z hz' L'
    fun s' D Ts hD d => hQ s' D Ts hD ⟨d.len, d.lst, d.rows, fun b o hb q => d.old b o hb (kp b o q), d.gens, d.drawn, d.os⟩
  · show s.heap.objs.size + a < h'.objs.size
    rw [hs]
    exact Nat.add_lt_add_left ha _
  · show s.heap.objs.size ≤ h'.objs.size
    rw [hs]
    exact Nat.le_add_right _ _
end
end Kin

set_option maxHeartbeats 4000000
namespace Kin
open PySem PySem.Spec PyProof.Rows L2
/-- many new things are tracked -/
theorem laidAll {X : Cx} {pins : List (Addr × Obj)} {σ : L2.St} {H H' : Hp} {s : Shared} {h' : Heap} {t' : Nat} (I : Inv X pins σ H s) (k : ∀ b u, s.heap.get? b = some u → h'.get? b = some u)
    (old : ∀ b, b < s.heap.objs.size → H' b = H b) (new : ∀ b o, s.heap.objs.size ≤ b → H' b = some o → ObjOk X.prog X.w H' h' b o) : Inv X pins σ H' { s with heap := h', toks := t' } := by
  have up : ∀ b u, H b = some u → H' b = some u := fun b u e => by
    rw [old b (Nat.lt_of_not_le fun z => by rw [I.hok.fresh z] at e; cases e)]
    exact e
  refine I.step (g' := s.gens) (d' := s.drawn) (ch := []) (fun _ z => nomatch z) (fun b o _ _ _ e _ => k b o e) (fun b o _ _ _ e _ => ⟨o.slots, k b o e⟩) (fun b o _ e n => ?_) (fun b o _ e => ⟨o, k b o e⟩) (fun b xs e => up _ _ e) (fun b o u e => up _ _ e) (fun b ps e => ⟨#[], ?_⟩) (fun m hm => ?_) (fun b u e => ?_) I.bare
  · rw [old b (Heap.lt_size e)]; exact n
  · rw [up _ _ e]; simp
  · obtain ⟨o, es, ep, ho, r⟩ := hm
    exact ⟨o, es, ep, k _ o ho, r⟩
  · by_cases hb : b < s.heap.objs.size
    · rw [old b hb] at e
      exact (I.hok b u e).stay (fun c v _ q => k c v q) (fun c q => up _ _ q) fun c xs q => up _ _ q
    · exact new b u (Nat.le_of_not_lt hb) e
def row4 (a b c d : List V) (j : Nat) : List V := [a.getD j .non, b.getD j .non, c.getD j .non, d.getD j .non]
def hpZ (H : Hp) (D : Addr) (Ts : List Addr) (r : Nat → List V) : Hp := fun b => if b = D then some (.lst (Ts.map V.ref)) else if b ∈ Ts then some (.tup (r (Ts.idxOf b))) else H b
section
variable {X : Cx} {ta : TA}
/-- list(zip(a, b, c, d)), four lists of one length -/
def tZip4 (K : PySem.W.Frag) (ta : TA) : TE := fun σ H Q => ta σ H fun vs H1 => ∃ (a b c d : Addr) (x1 x2 x3 x4 : List V), vs = [.ref a, .ref b, .ref c, .ref d] ∧ SqL K H1 a x1 ∧ SqL K H1 b x2 ∧ SqL K H1 c x3 ∧ SqL K H1 d x4 ∧
  x2.length = x1.length ∧ x3.length = x1.length ∧ x4.length = x1.length ∧ x1.length ≤ 1000000 ∧
  ∀ H2 D (Ts : List Addr), Same H1 H2 → H2 D = some (.lst (Ts.map V.ref)) → Ts.length = x1.length → (∀ j T, Ts[j]? = some T → H2 T = some (.tup (row4 x1 x2 x3 x4 j))) → Q (.ref D) H2
theorem got {xs : List V} {us : List Value} (r : Vals xs us) {j : Nat} {u : Value} (e : us.toArray[j]? = some u) : RelV (xs.getD j .non) u := by
  have hj : j < us.length := by
    have := (List.getElem?_eq_some_iff.mp (show us[j]? = some u by simpa using e)).1
    exact this
  rw [← r.length] at hj
  obtain ⟨u', e', ru⟩ := r.get (List.getElem?_eq_getElem hj)
  have : u' = u := Option.some.inj (e'.symm.trans (by simpa using e))
  subst this
  rw [List.getD_eq_getElem?_getD, List.getElem?_eq_getElem hj]
  exact ru
theorem Vals.refs : ∀ (Ts : List Addr), Vals (Ts.map V.ref) (Ts.map Value.ref)
  | [] => .nil
  | T :: Ts => .cons rfl (Vals.refs Ts)
theorem pe_listZip4 {a b c d : Expr} {p pos p2 pos2 : Pos} (hc : X.calm = true) (hg : Gl X "list") (hm : X.mg "list" = none) (hg2 : Gl X "zip") (hm2 : X.mg "zip" = none) (ha : PA X [a, b, c, d] ta)
    (hs1 : starEach [.Call (.Name "zip" p2) [a, b, c, d] [] pos2] X.env = (false, eval (.Call (.Name "zip" p2) [a, b, c, d] [] pos2) X.env) :: starEach [] X.env := by rfl)
    (hs : starEach [a, b, c, d] X.env = (false, eval a X.env) :: starEach [b, c, d] X.env := by rfl) (hpl : (backTo pos2 (starEach [b, c, d] X.env)).any (·.1) = false := by rfl) :
    PE X (.Call (.Name "list" p) [.Call (.Name "zip" p2) [a, b, c, d] [] pos2] [] pos) (tZip4 X.K ta) := by
  refine ⟨fun pins s σ H Q I h => ?_⟩
  refine Call_ (ld_blt I hg hm PyProof.Rows.boot_list (PyProof.Rows.callWith_type1 ?_ hs1 rfl))
  refine Calls.spliced_cons ?_
  refine wpAny_Call_Name_kw (ld_blt I hg2 hm2 PyProof.Rows.boot_zip (PyProof.Rows.callWith_type1 (thn (ha.run pos2 pins s σ H _ I h) ?_) hs hpl))
  rintro us s1 ⟨vs, H1, I1, r1, a', b', c', d', x1, x2, x3, x4, rfl, q1, q2, q3, q4, l2, l3, l4, lm, q⟩
  cases r1 with
  | cons e1 r1 =>
  cases r1 with
  | cons e2 r1 =>
  cases r1 with
  | cons e3 r1 =>
  cases r1 with
  | cons e4 r1 =>
  cases r1
  cases e1; cases e2; cases e3; cases e4
  obtain ⟨y1, v1, p1, _⟩ := I1.list q1
  obtain ⟨y2, v2, p2, _⟩ := I1.list q2
  obtain ⟨y3, v3, p3, _⟩ := I1.list q3
  obtain ⟨y4, v4, p4, _⟩ := I1.list q4
  have n1 := v1.length
  have n2 := v2.length
  have n3 := v3.length
  have n4 := v4.length
  have hsl := sizeLine_eq
  refine wpAny_mono (list_zip4 (Q := EP X pins σ Q) (E := X.xe) (I1.ok.hd hc) ⟨p1.isList, p2.isList, p3.isList, p4.isList⟩ (by simp; omega) (by simp; omega) (by simp; omega) (by simp; omega) fun s' D Ts hD dn => ?_)
    (fun v s4 h4 => Calls.spliced_nil h4) fun _ _ z => z
  obtain ⟨hp, gs, dr, tk, os⟩ := s'
  obtain ⟨len, ⟨cap, lst⟩, ⟨nd, rows⟩, old, rfl, rfl, rfl⟩ := dn
  have len : Ts.length = x1.length := by rw [len]; simp; omega
  have lst : hp.get? D = some { cls := .type "list", dict := none, data := .seq (Ts.map Value.ref).toArray cap, slots := #[] } := lst
  have at_ : ∀ (j : Nat) (T : Addr), Ts[j]? = some T → hpZ H1 D Ts (row4 x1 x2 x3 x4) T = some (.tup (row4 x1 x2 x3 x4 j)) := fun j T hT => by
    obtain ⟨_, nD, _⟩ := rows j T hT
    obtain ⟨hj, eT⟩ := List.getElem?_eq_some_iff.mp hT
    unfold hpZ
    rw [if_neg nD, if_pos (List.mem_of_getElem? hT)]
    congr 3
    subst eT
    exact nd.idxOf_getElem j hj
  have I2 : Inv X pins σ (hpZ H1 D Ts (row4 x1 x2 x3 x4)) { s1 with heap := hp, toks := tk } := by
    refine laidAll I1 (fun b u e => old b u (Heap.lt_size e) e) (fun b hb => ?_) (fun b o hb e => ?_)
    · unfold hpZ
      rw [if_neg (Nat.ne_of_lt (Nat.lt_of_lt_of_le hb hD)), if_neg]
      intro hm
      obtain ⟨j, hj⟩ := List.getElem?_of_mem hm
      exact absurd (Nat.lt_of_lt_of_le hb (rows j b hj).1) (Nat.lt_irrefl _)
    · by_cases hbD : b = D
      · subst hbD
        unfold hpZ at e
        rw [if_pos rfl] at e
        cases e
        exact ⟨by rw [List.length_map]; omega, Ts.map Value.ref, cap, Vals.refs Ts, lst⟩
      · by_cases hm : b ∈ Ts
        · obtain ⟨j, hj⟩ := List.getElem?_of_mem hm
          rw [at_ j b hj] at e
          cases e
          obtain ⟨_, _, _, u1, u2, u3, u4, g1, g2, g3, g4, eT⟩ := rows j b hj
          exact ⟨by show 4 ≤ sizeLine; omega, [u1, u2, u3, u4], .cons (got v1 g1) (.cons (got v2 g2) (.cons (got v3 g3) (.cons (got v4 g4) .nil))), ⟨_, eT, rfl, _, rfl⟩⟩
        · unfold hpZ at e
          rw [if_neg hbD, if_neg hm, I1.hok.fresh hb] at e
          cases e
  refine ⟨.ref D, _, I2, rfl, q _ D Ts (fun b o e => ?_) ?_ len at_⟩
  · have hb : b < s1.heap.objs.size := (I1.hok b o e).lt
    unfold hpZ
    rw [if_neg (Nat.ne_of_lt (Nat.lt_of_lt_of_le hb hD)), if_neg]
    · exact e
    · intro hm
      obtain ⟨j, hj⟩ := List.getElem?_of_mem hm
      exact absurd (Nat.lt_of_lt_of_le hb (rows j b hj).1) (Nat.lt_irrefl _)
  · unfold hpZ
    rw [if_pos rfl]
end
end Kin

set_option maxHeartbeats 2000000
namespace K05
open PySem PySem.Spec PyProof.Rows L2 Kin
abbrev s_turned_row : Stmt := top 32
abbrev N_turned_row : List Str := ["sex", "row", "backs", "stood", "step"]
theorem sc_turned_row : FnScope N_turned_row ["sex", "row"] (defScope s_turned_row) := ⟨rfl, rfl, rfl, by decide +kernel, rfl, by decide +kernel, by decide +kernel⟩
abbrev s_turned : Stmt := top 33
abbrev N_turned : List Str := ["sex", "row"]
theorem sc_turned : FnScope N_turned ["sex", "row"] (defScope s_turned) := ⟨rfl, rfl, rfl, by decide +kernel, rfl, by decide +kernel, by decide +kernel⟩
structure TxtT (K : PySem.W.Frag) (mg : Str → Option Value) extends Txt2 K mg where
  n_zip : mg "zip" = none
  n_reversed : mg "reversed" = none
  a_turned_row : Addr
  f_turned_row : FuncData
  d_turned_row : Df K mg "turned_row" s_turned_row ["sex", "row"] a_turned_row f_turned_row
  a_turned : Addr
  f_turned : FuncData
  d_turned : Df K mg "turned" s_turned ["sex", "row"] a_turned f_turned
section
variable {P : Program} {w : World} {K : PySem.W.Frag} {mg : Str → Option Value} {base : Heap}
def sp_turned_row : Sp := fun vs H Q _ => ∃ (b : Bool) (r : List Nat), vs = [.str (sexC b), .str (rowS r)] ∧ r.length ≤ 1000 ∧ ∀ H', Same H H' → Q (.str (turnS b r)) H'
def backs (b : Bool) (r : List Nat) : List Str := (List.range r.length).map fun i => backC ((along b r).getD i false) (r.getD i 0)
theorem fold_empty : ∀ (l : List Str) (a : Array Nat), l.foldl (fun acc p => acc ++ ("" : Str).cps ++ p.cps) a = a ++ (l.flatMap fun x => x.cps.toList).toArray
  | [], a => by simp
  | x :: l, a => by
    rw [List.foldl_cons, fold_empty l, List.flatMap_cons, show ("" : Str).cps = #[] from rfl]
    apply Array.ext'
    simp
theorem join_empty (l : List Str) : Txt.join "" l = ⟨(l.flatMap fun x => x.cps.toList).toArray⟩ := by
  show (⟨(l.drop 1).foldl (fun acc p => acc ++ ("" : Str).cps ++ p.cps) (l.headD Str.empty).cps⟩ : Str) = _
  cases l with
  | nil => rfl
  | cons x l =>
    rw [fold_empty]
    congr 1
    apply Array.ext'
    simp
theorem backs_ok {b : Bool} {r : List Nat} (hl : r.length ≤ 1000) : JoinOk "" (backs b r).reverse = true := by
  refine joinOk_of ?_
  have : ∀ l : List Str, (∀ x ∈ l, x.length = 1) → (l.map (·.length)).sum = l.length := fun l h => by
    induction l with
    | nil => rfl
    | cons x l ih => rw [List.map_cons, List.sum_cons, ih fun y m => h y (List.mem_cons_of_mem _ m), h x List.mem_cons_self, List.length_cons]; omega
  rw [this]
  · unfold backs
    simp
    show r.length + r.length * 0 ≤ _
    omega
  · intro x hx
    rw [List.mem_reverse] at hx
    obtain ⟨i, _, rfl⟩ := List.mem_map.mp hx
    unfold backC
    split <;> split <;> rfl
theorem join_backs {b : Bool} {r : List Nat} : Txt.join "" (backs b r).reverse = turnS b r := by
  rw [join_empty]
  unfold backs turnS
  rw [← List.map_reverse, List.flatMap_map]
theorem ok_turned_row (T : TxtT K mg) : FnOk P w K mg base CX0 3 T.a_turned_row T.f_turned_row ["sex", "row"] sp_turned_row := by
  have G_sexes_along : FnOk P w K mg base CX0 2 T.a_sexes_along T.f_sexes_along ["sex", "row"] sp_sexes_along := ok_sexes_along T.toTxt2
  have G_back_step : FnOk P w K mg base CX0 1 T.a_back_step T.f_back_step ["sex", "step"] sp_back_step := ok_back_step T.toTxt2
  refine T.d_turned_row.F.ok sc_turned_row (fun vs H Q E h => ?_) (fun cdv A outer s H vs Q E hr h => ?_)
  · obtain ⟨b, r, rfl, _⟩ := h
    rfl
  · obtain ⟨b, r, rfl, hl, q⟩ := h
    refine ⟨_, (pss_cons (ps_setLc (i := 2) (own := [("stood", 3), ("step", 4)]) (g := gTup K 2 (gCons (gName 3) (gCons (gName 4) gNil))) (tt := tYes) rfl sc_turned_row.nd rfl rfl (sw_true rfl rfl rfl (by decide +kernel)) (pi_zipS (by rfl) T.n_zip (pa_cons (pe_call G_sexes_along (hr.mono (by decide)) rfl T.d_sexes_along.g T.d_sexes_along.F.kp T.d_sexes_along.b .nil pass0 (pa_cons (pv 0) (pa_cons (pv 1) pa_nil))) (pa_cons (pv 1) pa_nil))) (blkOk_by (N := N_turned_row) (sc := defScope s_turned_row) (by decide +kernel)) (fun _ _ _ _ _ => by exact (pg_tup rfl (pgs_cons (pg_name (i := 3) sc_turned_row.nd rfl (Or.inl rfl)) (pgs_cons (pg_name (i := 4) sc_turned_row.nd rfl (Or.inl rfl)) pgs_nil)))) (fun _ _ _ _ _ => pts_nil) (fun _ _ _ _ _ => (pe_call G_back_step (hr.mono (by decide)) rfl T.d_back_step.g T.d_back_step.F.kp T.d_back_step.b .nil pass0 (pa_cons (pv 3) (pa_cons (pv 4) pa_nil)))))
      (pss_one (ps_ret (pe_joinRev rfl pe_str (by rfl) T.n_reversed (pa_cons (pv 2) pa_nil))))), ?_⟩
    refine ⟨_, rfl, _, rfl, b, r, rfl, hl, fun H1 p sm np hp => ?_⟩
    refine ⟨_, rfl, p, rowS r, _, rfl, .inl (.inl hp), fun D nD => ?_⟩
    have nDp : p ≠ D := fun z => by rw [← z, hp] at nD; cases nD
    have hSp : ∀ H', Same H1 H' → SqL K H' p ((along b r).map fun b => V.str (sexC b)) := fun H' s => .inl (.inl (s _ _ hp))
    refine lc_itY (walk_zipS (xs := (along b r).map fun b => V.str (sexC b)) (z := rowS r) (n := r.length) (by rw [List.length_map, along_len]; simp)) (fun i H' => Same H1 H' ∧ H' D = some (.lst (((backs b r).take i).map V.str))) ?_ (fun i H' _ p => hSp H' p.1) ?_ ?_
    · exact ⟨same_upd nD, upd_same⟩
    · rintro i v H2 H3 hi ⟨s2, e2⟩ ⟨Tu, x, c, rfl, nT, rfl, ex, ec⟩
      have hx : x = V.str (sexC ((along b r).getD i false)) := by
        rw [List.getElem?_map, getD_some (by rw [along_len]; omega : i < (along b r).length) (d := false)] at ex
        exact (Option.some.inj ex).symm
      have hcc : c = r.getD i 0 := by
        have : r[i]? = some c := by simpa using ec
        rw [getD_some hi (d := 0)] at this
        exact (Option.some.inj this).symm
      subst hx hcc
      have nTD : Tu ≠ D := fun z => by rw [← z, nT] at e2; cases e2
      refine ⟨Tu, _, rfl, .inl (.inl upd_same), rfl, _, _, rfl, _, _, rfl, rfl, rfl, ?_⟩
      refine ⟨_, rfl, _, rfl, _, _, rfl, ?_⟩
      refine ⟨_, by rw [upd_ne (Ne.symm nTD)]; exact e2, ?_, ?_, ?_⟩
      · rw [List.length_map, List.length_take]
        exact Nat.lt_of_le_of_lt (Nat.min_le_left _ _) (by rw [sizeLine_eq]; omega)
      · intro b' o' e'
        rw [upd_ne (fun z => by rw [z, nD] at e'; cases e')]
        exact same_upd nT _ _ (s2 _ _ e')
      · rw [upd_same, List.take_add_one]
        have : (backs b r)[i]? = some (backC ((along b r).getD i false) (r.getD i 0)) := by
          unfold backs
          rw [List.getElem?_map, List.getElem?_range hi]
          rfl
        rw [this, List.map_append]
        rfl
    · rintro H2 ⟨s2, e2⟩
      have et : (backs b r).take r.length = backs b r := List.take_of_length_le (by unfold backs; simp)
      rw [et] at e2
      refine ⟨⟨_, rfl⟩, _, rfl, "", D, backs b r, rfl, rfl, .inl (.inl e2), ?_, ?_, ?_⟩
      · unfold backs
        simp
        omega
      · exact backs_ok hl
      · rw [join_backs]
        exact q _ (sm.trans s2)
theorem ok_turned (T : TxtT K mg) : FnOk P w K mg base (L2.CX P w) 4 T.a_turned T.f_turned ["sex", "row"] (sp_step K T.aNoSex T.aNoRow R_turned) := by
  have G_need_sex : FnOk P w K mg base (L2.CX P w) 2 T.a_need_sex T.f_need_sex ["thing"] (sp_need_sex K T.aNoSex) := ok_need_sex T.toTxt2
  have G_need_row : FnOk P w K mg base (L2.CX P w) 2 T.a_need_row T.f_need_row ["thing"] (sp_need_row K T.aNoRow) := ok_need_row T.toTxt2
  have G_turned_row : FnOk P w K mg base CX0 3 T.a_turned_row T.f_turned_row ["sex", "row"] sp_turned_row := ok_turned_row T
  refine T.d_turned.F.okX sc_turned (fun vs H Q E h => ?_) (fun cdv A outer s H vs Q E hr h => ?_)
  · obtain ⟨x, y, rfl, _⟩ := h
    rfl
  · obtain ⟨x, y, rfl, hx, hy, e1, e2, q⟩ := h
    refine ⟨_, (pss_cons (ps_expr (pe_callS G_need_sex (hr.mono (by decide)) rfl T.d_need_sex.g T.d_need_sex.F.kp T.d_need_sex.b (fun σ => passAt (takes_of rfl rfl rfl rfl) σ) (pa_cons (pv 0) pa_nil)))
      (pss_cons (ps_expr (pe_callS G_need_row (hr.mono (by decide)) rfl T.d_need_row.g T.d_need_row.F.kp T.d_need_row.b (fun σ => passAt (takes_of rfl rfl rfl rfl) σ) (pa_cons (pv 1) pa_nil)))
      (pss_one (ps_ret (pe_call G_turned_row (hr.mono (by decide)) rfl T.d_turned_row.g T.d_turned_row.F.kp T.d_turned_row.b .nil pass0 (pa_cons (pv 0) (pa_cons (pv 1) pa_nil))))))), ?_⟩
    refine ⟨x, rfl, x, rfl, hx, fun hs => ?_, e1⟩
    refine ⟨y, rfl, y, rfl, hy, fun H1 s1 => ⟨fun hr' => ?_, fun hr' => e2 hs hr' H1 s1⟩⟩
    obtain ⟨b, rfl⟩ := of_sexV hs
    obtain ⟨r, rfl, hl, _⟩ := of_rowV hr'
    exact ⟨_, rfl, _, rfl, b, r, rfl, by omega, fun H2 s2 => q b r rfl rfl hr' H2 (s1.trans s2)⟩
end
end K05

set_option maxHeartbeats 2000000
namespace K05
open PySem PySem.Spec PyProof.Rows L2 Kin
abbrev s_name_of : Stmt := top 34
abbrev N_name_of : List Str := ["number", "name", "rest"]
theorem sc_name_of : FnScope N_name_of ["number"] (defScope s_name_of) := ⟨rfl, rfl, rfl, by decide +kernel, rfl, by decide +kernel, by decide +kernel⟩
abbrev s_depths_along : Stmt := top 36
abbrev N_depths_along : List Str := ["row", "depths", "step"]
theorem sc_depths_along : FnScope N_depths_along ["row"] (defScope s_depths_along) := ⟨rfl, rfl, rfl, by decide +kernel, rfl, by decide +kernel, by decide +kernel⟩
structure TxtN (K : PySem.W.Frag) (mg : Str → Option Value) extends TxtT K mg where
  tLET : Tok
  g_LETTERS : mg "LETTERS" = some (.str "abcdefghijklmnopqrstuvwxyz" tLET)
  a_name_of : Addr
  f_name_of : FuncData
  d_name_of : Df K mg "name_of" s_name_of ["number"] a_name_of f_name_of
  a_depths_along : Addr
  f_depths_along : FuncData
  d_depths_along : Df K mg "depths_along" s_depths_along ["row"] a_depths_along f_depths_along
section
variable {P : Program} {w : World} {K : PySem.W.Frag} {mg : Str → Option Value} {base : Heap}
def sp_name_of : Sp := fun vs H Q _ => ∃ n : Nat, vs = [.int (n : Nat)] ∧ n ≤ 1000 ∧ ∀ z, Q (.str z) H
theorem let_at (m : Nat) : atI ("abcdefghijklmnopqrstuvwxyz" : Str).cps.toList ((m : Int) % 26) = some (("abcdefghijklmnopqrstuvwxyz" : Str).cps.toList.getD (m % 26) 0) := by
  rw [show ((m : Int) % 26) = ((m % 26 : Nat) : Int) by omega]
  exact atI_nat (getD_some (by show m % 26 < 26; omega))
theorem ok_name_of (T : TxtN K mg) : FnOk P w K mg base CX0 1 T.a_name_of T.f_name_of ["number"] sp_name_of := by
  refine T.d_name_of.F.ok sc_name_of (fun vs H Q E h => ?_) (fun cdv A outer s H vs Q E hr h => ?_)
  · obtain ⟨n, rfl, _⟩ := h
    rfl
  · obtain ⟨n, rfl, hn, q⟩ := h
    refine ⟨_, (pss_cons (ps_set (i := 1) sc_name_of.nd rfl (Or.inl rfl) (pe_ix ix_str (pe_gS rfl T.g_LETTERS) (pe_op op_mod (pv 0) pe_int) (fun _ _ => rfl)))
      (pss_cons (ps_set (i := 2) sc_name_of.nd rfl (Or.inl rfl) (pe_op op_fdiv (pv 0) pe_int))
      (pss_cons (ps_while PassesOwn.never (pt_cmpR op_gt (pv 2) pe_int (nomark _))
        (pss_cons (ps_set (i := 1) sc_name_of.nd rfl (Or.inl rfl) (pe_op op_add_str (pe_ix ix_str (pe_gS rfl T.g_LETTERS) (pe_op op_mod (pv 2) pe_int) (fun _ _ => rfl)) (pv 1)))
        (pss_one (ps_set (i := 2) sc_name_of.nd rfl (Or.inl rfl) (pe_op op_fdiv (pv 2) pe_int)))))
      (pss_one (ps_ret (pv 1)))))), ?_⟩
    have c26 : (0 : Int) < 26 := by decide
    refine ⟨_, rfl, _, _, rfl, rfl, c26, _, _, _, rfl, rfl, by decide, let_at n, ?_⟩
    refine ⟨_, rfl, _, _, rfl, rfl, ⟨c26, by decide⟩, ?_⟩
    refine while_by (fun σ H' => H' = H ∧ ∃ (m : Nat) (z : Str), σ = [some (.int (n : Nat)), some (.str z), some (.int (m : Nat))] ∧ z.length + m ≤ 1001) (fun σ _ => match σ[2]? with | some (some (V.int m)) => m.toNat | _ => 0) ?_ ?_ ?_
    · refine ⟨rfl, n / 26, _, rfl, ?_⟩
      show 1 + n / 26 ≤ 1001
      omega
    · rintro σ H' ⟨rfl, m, z, rfl, hm⟩
      refine ⟨_, rfl, _, _, rfl, rfl, _, rfl, ?_⟩
      refine ite2 (fun hc => ?_) (fun hc => ?_)
      · have hm0 : 0 < m := by
          have : (0 : Int) < (m : Int) := of_decide_eq_true hc
          omega
        refine ⟨_, rfl, _, _, rfl, rfl, c26, _, _, _, rfl, rfl, by decide, let_at m, ?_⟩
        refine ⟨_, rfl, _, _, rfl, rfl, ?_, ?_⟩
        · show 1 + z.length ≤ sizeLine
          rw [sizeLine_eq]
          omega
        · refine ⟨_, rfl, _, _, rfl, rfl, ⟨c26, by decide⟩, ⟨rfl, m / 26, _, rfl, ?_⟩, ?_⟩
          · show (#[_] ++ z.cps).size + m / 26 ≤ 1001
            rw [Array.size_append]
            show 1 + z.length + m / 26 ≤ 1001
            omega
          · show ((m : Int) / 26).toNat < (m : Int).toNat
            omega
      · exact ⟨_, rfl, q _⟩
    · rintro σ H' Q1 Q2 f ⟨x, hx, a, b, h1, h2, c, h3, h4⟩
      exact ⟨x, hx, a, b, h1, h2, c, h3, f _ _ h4⟩
def sp_depths_along : Sp := fun vs H Q _ => ∃ r : List Nat, vs = [.str (rowS r)] ∧ r.length ≤ 1000 ∧ ∀ H' p (ds : List Int), Same H H' → H p = none → H' p = some (.lst (ds.map V.int)) → ds.length = r.length + 1 → Q (.ref p) H'
theorem ok_depths_along (T : TxtN K mg) : FnOk P w K mg base CX0 1 T.a_depths_along T.f_depths_along ["row"] sp_depths_along := by
  refine T.d_depths_along.F.ok sc_depths_along (fun vs H Q E h => ?_) (fun cdv A outer s H vs Q E hr h => ?_)
  · obtain ⟨r, rfl, _⟩ := h
    rfl
  · obtain ⟨r, rfl, hl, q⟩ := h
    refine ⟨_, (pss_cons (ps_set (i := 1) sc_depths_along.nd rfl (Or.inl rfl) (pe_lst (pa_cons pe_int pa_nil)))
      (pss_cons (ps_for PassesOwn.never rfl (pi_str (pv 0)) (pg_name (i := 2) sc_depths_along.nd rfl (Or.inl rfl))
        (pss_one (ps_expr (pe_bm PySem.F.plainAttrs_list PySem.F.slot_list_append PySem.F.type_list_append mt_append (pv 1) (pa_cons (pe_ifExp (pt_cmpR op_in_sign (pv 2) (pe_gS rfl T.g_UPWARD) (by rfl)) (pe_op op_sub (pe_ix ix_list (pv 1) (pe_un un_neg pe_int) (fun _ _ => rfl)) pe_int) (pe_op op_add (pe_ix ix_list (pv 1) (pe_un un_neg pe_int) (fun _ _ => rfl)) pe_int)) pa_nil)))))
      (pss_one (ps_ret (pv 1))))), ?_⟩
    refine ⟨by show 1 ≤ sizeLine; decide, fun D nD => ?_⟩
    refine ⟨_, rfl, rowS r, rfl, ?_⟩
    refine for_it (walk_str (z := rowS r)) (fun i σ H' => ∃ (ds : List Int) (d : Int) (x2 : Option V), σ = [some (.str (rowS r)), some (.ref D), x2] ∧ ds.length = i ∧ H' = upd H D (.lst (ds.map V.int ++ [.int d]))) ?_ (fun _ _ _ _ _ => trivial) ?_ ?_
    · exact ⟨[], 0, _, rfl, rfl, rfl⟩
    · rintro i v σ H1 H2 hi ⟨ds, d, x2, rfl, hd, rfl⟩ ⟨rfl, c, hc, rfl⟩
      have hi' : i < r.length := by simpa using hi
      have hz : (ds.map V.int ++ [V.int d]).length < sizeLine := by
        rw [List.length_append, List.length_map, hd, sizeLine_eq]
        show i + 1 < _
        omega
      have hS : SqL K (upd H D (.lst (ds.map V.int ++ [.int d]))) D (ds.map V.int ++ [.int d]) := .inl (.inl upd_same)
      refine ⟨_, rfl, ?_⟩
      refine ⟨.inl ⟨rfl, _, hS⟩, ?_⟩
      refine ⟨_, rfl, c, _, rfl, rfl, _, rfl, ?_⟩
      have fin : ∀ d2 : Int, ∃ (ds' : List Int) (d' : Int) (x2' : Option V), [some (.str (rowS r)), some (.ref D), some (V.str (sgn c))] = [some (.str (rowS r)), some (.ref D), x2'] ∧ ds'.length = i + 1 ∧
          upd (upd H D (.lst (ds.map V.int ++ [.int d]))) D (.lst (ds.map V.int ++ [.int d] ++ [.int d2])) = upd H D (.lst (ds'.map V.int ++ [.int d'])) := fun d2 =>
        ⟨ds ++ [d], d2, _, rfl, by rw [List.length_append, hd]; rfl, by rw [upd_upd, List.map_append]; rfl⟩
      refine ite2 (fun _ => ?_) (fun _ => ?_)
      · refine ⟨_, rfl, _, rfl, D, _, -1, _, rfl, rfl, hS, atI_last _ _, _, _, rfl, rfl, ?_⟩
        exact ⟨D, _, _, rfl, rfl, upd_same, hz, fin _⟩
      · refine ⟨_, rfl, _, rfl, D, _, -1, _, rfl, rfl, hS, atI_last _ _, _, _, rfl, rfl, ?_⟩
        exact ⟨D, _, _, rfl, rfl, upd_same, hz, fin _⟩
    · rintro σ H1 ⟨ds, d, x2, rfl, hd, rfl⟩
      refine ⟨_, rfl, q _ D (ds ++ [d]) (same_upd nD) nD ?_ ?_⟩
      · rw [upd_same, List.map_append]
        rfl
      · rw [List.length_append, hd]
        simp
end
end K05

set_option maxHeartbeats 4000000
namespace K05
open PySem PySem.Spec PyProof.Rows L2 Kin
abbrev s_chain_persons : Stmt := top 35
abbrev N_chain_persons : List Str := ["sex", "row", "sexes", "names", "fathers", "mothers", "at", "step", "child", "parent", "_"]
theorem sc_chain_persons : FnScope N_chain_persons ["sex", "row"] (defScope s_chain_persons) := ⟨rfl, rfl, rfl, by decide +kernel, rfl, by decide +kernel, by decide +kernel⟩
structure TxtP (K : PySem.W.Frag) (mg : Str → Option Value) extends TxtN K mg where
  n_list : mg "list" = none
  n_enumerate : mg "enumerate" = none
  a_chain_persons : Addr
  f_chain_persons : FuncData
  d_chain_persons : Df K mg "chain_persons" s_chain_persons ["sex", "row"] a_chain_persons f_chain_persons
section
variable {P : Program} {w : World} {K : PySem.W.Frag} {mg : Str → Option Value} {base : Heap}
theorem same_set {H H' : Hp} {a : Addr} {o : HO} (s : Same H H') (n : H a = none) : Same H (upd H' a o) := fun b x e => by
  rw [upd_ne (ne_of_none e n)]
  exact s b x e
theorem ixNn {n j : Nat} (hj : j < n) : ixN n (j : Int) = some j := by
  unfold ixN
  rw [if_pos (by omega), if_pos (by omega)]
  simp
def sp_chain_persons : Sp := fun vs H Q _ => ∃ (b : Bool) (r : List Nat), vs = [.str (sexC b), .str (rowS r)] ∧ r.length ≤ 900 ∧
  ∀ H' p (Ts : List Addr), Same H H' → H' p = some (.lst (Ts.map V.ref)) → Ts.length = r.length + 1 → (∀ (j : Nat) (T : Addr), Ts[j]? = some T → ∃ x1 x2 x3 x4, H' T = some (.tup [x1, x2, x3, x4])) → Q (.ref p) H'
theorem ok_chain_persons (T : TxtP K mg) : FnOk P w K mg base CX0 3 T.a_chain_persons T.f_chain_persons ["sex", "row"] sp_chain_persons := by
  have G_sexes_along : FnOk P w K mg base CX0 2 T.a_sexes_along T.f_sexes_along ["sex", "row"] sp_sexes_along := ok_sexes_along T.toTxt2
  have G_name_of : FnOk P w K mg base CX0 1 T.a_name_of T.f_name_of ["number"] sp_name_of := ok_name_of T.toTxtN
  refine T.d_chain_persons.F.ok sc_chain_persons (fun vs H Q E h => ?_) (fun cdv A outer s H vs Q E hr h => ?_)
  · obtain ⟨b, r, rfl, _⟩ := h
    rfl
  · obtain ⟨b, r, rfl, hl, q⟩ := h
    refine ⟨_, (pss_cons (ps_set (i := 2) sc_chain_persons.nd rfl (Or.inl rfl) (pe_call G_sexes_along (hr.mono (by decide)) rfl T.d_sexes_along.g T.d_sexes_along.F.kp T.d_sexes_along.b .nil pass0 (pa_cons (pv 0) (pa_cons (pv 1) pa_nil))))
      (pss_cons (ps_setLc (i := 3) (own := [("at", 6)]) (g := gName 6) (tt := tYes) rfl sc_chain_persons.nd rfl rfl (sw_true rfl rfl rfl (by decide +kernel)) (pi_range1 (by rfl) T.n_range (pa_cons (pe_callB call_len_seq (by rfl) T.n_len boot_len (pa_cons (pv 2) pa_nil)) pa_nil)) (blkOk_by (N := N_chain_persons) (sc := defScope s_chain_persons) (by decide +kernel)) (fun _ _ _ _ _ => pg_name (i := 6) sc_chain_persons.nd rfl (Or.inl rfl)) (fun _ _ _ _ _ => pts_nil) (fun _ _ _ _ _ => (pe_call G_name_of (hr.mono (by decide)) rfl T.d_name_of.g T.d_name_of.F.kp T.d_name_of.b .nil pass0 (pa_cons (pv 6) pa_nil))))
      (pss_cons (ps_setLc (i := 4) (own := [("_", 10)]) (g := gName 10) (tt := tYes) rfl sc_chain_persons.nd rfl rfl (sw_true rfl rfl rfl (by decide +kernel)) (pi_list (pv 3)) (blkOk_by (N := N_chain_persons) (sc := defScope s_chain_persons) (by decide +kernel)) (fun _ _ _ _ _ => pg_name (i := 10) sc_chain_persons.nd rfl (Or.inl rfl)) (fun _ _ _ _ _ => pts_nil) (fun _ _ _ _ _ => pe_non))
      (pss_cons (ps_setLc (i := 5) (own := [("_", 10)]) (g := gName 10) (tt := tYes) rfl sc_chain_persons.nd rfl rfl (sw_true rfl rfl rfl (by decide +kernel)) (pi_list (pv 3)) (blkOk_by (N := N_chain_persons) (sc := defScope s_chain_persons) (by decide +kernel)) (fun _ _ _ _ _ => pg_name (i := 10) sc_chain_persons.nd rfl (Or.inl rfl)) (fun _ _ _ _ _ => pts_nil) (fun _ _ _ _ _ => pe_non))
      (pss_cons (ps_for PassesOwn.never rfl (pi_enumS (by rfl) T.n_enumerate (pa_cons (pv 1) pa_nil)) (pg_tup rfl (pgs_cons (pg_name (i := 6) sc_chain_persons.nd rfl (Or.inl rfl)) (pgs_cons (pg_name (i := 7) sc_chain_persons.nd rfl (Or.inl rfl)) pgs_nil)))
        (pss_cons (ps_if (pt_cmpR op_in_sign (pv 7) (pe_gS rfl T.g_UPWARD) (by rfl))
          (pss_one (ps_par (i := 8) (j := 9) (by rfl) sc_chain_persons.nd rfl rfl (by decide) rfl rfl (pa_cons (pv 6) (pa_cons (pe_op op_add (pv 6) pe_int) pa_nil)) (by rfl)))
          (pss_one (ps_par (i := 8) (j := 9) (by rfl) sc_chain_persons.nd rfl rfl (by decide) rfl rfl (pa_cons (pe_op op_add (pv 6) pe_int) (pa_cons (pv 6) pa_nil)) (by rfl))))
        (pss_one (ps_if (pt_cmpR op_eq (pe_ix ix_list (pv 2) (pv 9) (fun _ _ => rfl)) pe_str (nomark _))
          (pss_one (ps_asg (pe_ix ix_list (pv 3) (pv 9) (fun _ _ => rfl)) (pg_sub (pv 4) (pv 8) set_list)))
          (pss_one (ps_asg (pe_ix ix_list (pv 3) (pv 9) (fun _ _ => rfl)) (pg_sub (pv 5) (pv 8) set_list)))))))
      (pss_one (ps_ret (pe_listZip4 rfl (by rfl) T.n_list (by rfl) T.n_zip (pa_cons (pv 3) (pa_cons (pv 2) (pa_cons (pv 4) (pa_cons (pv 5) pa_nil)))))))))))), ?_⟩
    refine ⟨_, rfl, _, rfl, b, r, rfl, by omega, fun H1 p1 s1 n1 e1 => ?_⟩
    refine ⟨_, rfl, p1, _, rfl, .inl (.inl (.inl e1)), ?_⟩
    have hn : ((along b r).map fun b => V.str (sexC b)).length = r.length + 1 := by rw [List.length_map, along_len]
    rw [hn]
    generalize hxs : (along b r).map (fun b => V.str (sexC b)) = xs at e1 hn ⊢
    refine ⟨_, rfl, by omega, by omega, fun D2 n2 => ?_⟩
    refine lc_itY walk_range (fun i H' => Same H1 H' ∧ ∃ zs : List Str, zs.length = i ∧ H' D2 = some (.lst (zs.map V.str))) ?_ (fun _ _ _ _ => trivial) ?_ ?_
    · exact ⟨same_upd n2, [], rfl, upd_same⟩
    · rintro i v H2 H3 hi ⟨s2, zs, hz, e2⟩ ⟨rfl, rfl⟩
      have hi : i < r.length + 1 := hi
      refine ⟨rfl, ?_⟩
      refine ⟨_, rfl, i, by show [V.int (0 + (i : Int))] = _; rw [Int.zero_add], by omega, fun z => ?_⟩
      refine ⟨_, e2, ?_, same_set s2 n2, zs ++ [z], ?_, ?_⟩
      · rw [List.length_map, sizeLine_eq]
        omega
      · rw [List.length_append, hz]
        rfl
      · rw [upd_same, List.map_append]
        rfl
    · rintro H2 ⟨s2, zs, hz, e2⟩
      have hz : zs.length = r.length + 1 := hz
      have e1' := s2 _ _ e1
      have s02 := s1.trans s2
      clear s2
      have S2 : ∀ H', Same H2 H' → SqL K H' D2 (zs.map V.str) := fun H' s => .inl (.inl (s _ _ e2))
      refine ⟨_, rfl, D2, rfl, ⟨_, .inl (.inl e2)⟩, fun D4 n4 => ?_⟩
      refine lc_itY (walk_list (K := K) (a := D2) (xs := zs.map V.str)) (fun i H' => Same H2 H' ∧ ∃ fs : List V, fs.length = i ∧ H' D4 = some (.lst fs)) ?_ (fun i H' _ p => S2 H' p.1) ?_ ?_
      · exact ⟨same_upd n4, [], rfl, upd_same⟩
      · rintro i v H3 H3' hi ⟨s3, fs, hf, e3⟩ ⟨rfl, _⟩
        rw [List.length_map, hz] at hi
        refine ⟨rfl, _, e3, ?_, same_set s3 n4, fs ++ [.non], ?_, upd_same⟩
        · rw [sizeLine_eq]
          omega
        · rw [List.length_append, hf]
          rfl
      · rintro H3 ⟨s3, fs, hf, e3⟩
        rw [List.length_map, hz] at hf
        refine ⟨_, rfl, D2, rfl, ⟨_, S2 H3 s3⟩, fun D5 n5 => ?_⟩
        have nD45 : D4 ≠ D5 := fun z => by rw [← z, e3] at n5; cases n5
        have n5' : H2 D5 = none := s3.free n5
        refine lc_itY (walk_list (K := K) (a := D2) (xs := zs.map V.str)) (fun i H' => Same H2 H' ∧ H' D4 = some (.lst fs) ∧ ∃ ms : List V, ms.length = i ∧ H' D5 = some (.lst ms)) ?_ (fun i H' _ p => S2 H' p.1) ?_ ?_
        · exact ⟨same_set s3 n5', by rw [upd_ne nD45]; exact e3, [], rfl, upd_same⟩
        · rintro i v H4 H4' hi ⟨s4, e4, ms, hm, e5⟩ ⟨rfl, _⟩
          rw [List.length_map, hz] at hi
          refine ⟨rfl, _, e5, ?_, same_set s4 n5', by rw [upd_ne nD45]; exact e4, ms ++ [.non], ?_, upd_same⟩
          · rw [sizeLine_eq]
            omega
          · rw [List.length_append, hm]
            rfl
        · rintro H4 ⟨s4, e4, ms, hm, e5⟩
          rw [List.length_map, hz] at hm
          clear s3 e3
          refine ⟨_, rfl, rowS r, rfl, ?_⟩
          refine for_it (walk_enumS (z := rowS r)) (fun i σ H' => Same H2 H' ∧ ∃ (fs ms : List V) (x6 x7 x8 x9 : Option V), fs.length = r.length + 1 ∧ ms.length = r.length + 1 ∧ H' D4 = some (.lst fs) ∧ H' D5 = some (.lst ms) ∧
            σ = [some (.str (sexC b)), some (.str (rowS r)), some (.ref p1), some (.ref D2), some (.ref D4), some (.ref D5), x6, x7, x8, x9, none]) ?_ (fun _ _ _ _ _ => trivial) ?_ ?_
          · exact ⟨s4, fs, ms, _, _, _, _, hf, hm, e4, e5, rfl⟩
          · rintro i v σ H5 H6 hi ⟨s5, fs, ms, x6, x7, x8, x9, hf, hm, e4, e5, rfl⟩ ⟨Tu, c, rfl, nT, rfl, hc⟩
            have hi' : i < r.length := by simpa using hi
            have s6 : Same H2 (upd H5 Tu (.tup [.int (i : Nat), .str ⟨#[c]⟩])) := same_set s5 (s5.free nT)
            have e1b := s6 _ _ e1'
            have e4b : upd H5 Tu (.tup [.int (i : Nat), .str ⟨#[c]⟩]) D4 = some (.lst fs) := same_upd nT _ _ e4
            have e5b : upd H5 Tu (.tup [.int (i : Nat), .str ⟨#[c]⟩]) D5 = some (.lst ms) := same_upd nT _ _ e5
            refine ⟨Tu, _, rfl, .inl (.inl upd_same), rfl, _, _, rfl, _, _, rfl, rfl, ?_⟩
            generalize upd H5 Tu (.tup [.int (i : Nat), .str ⟨#[c]⟩]) = H6 at s6 e1b e4b e5b ⊢
            refine ⟨_, rfl, c, _, rfl, rfl, _, rfl, ?_⟩
            refine ite2 (fun _ => ?_) (fun _ => ?_)
            · refine ⟨_, rfl, _, rfl, _, _, rfl, rfl, _, _, rfl, ?_⟩
              · have g3 : xs[i + 1]? = some (V.str (sexC ((along b r).getD (i + 1) false))) := by
                  rw [← hxs, List.getElem?_map, getD_some (by rw [along_len]; omega : i + 1 < (along b r).length) (d := false)]
                  rfl
                have g4 : (zs.map V.str)[i + 1]? = some (V.str (zs.getD (i + 1) Str.empty)) := by
                  rw [List.getElem?_map, getD_some (l := zs) (k := i + 1) (d := Str.empty) (by omega)]
                  rfl
                refine ⟨_, rfl, _, rfl, p1, xs, ((i + 1 : Nat) : Int), _, rfl, rfl, .inl (.inl e1b), atI_nat g3, rfl, _, rfl, ?_⟩
                refine ite2 (fun _ => ?_) (fun _ => ?_)
                · refine ⟨_, rfl, _, rfl, D2, _, ((i + 1 : Nat) : Int), _, rfl, rfl, S2 _ s6, atI_nat g4, ?_⟩
                  refine ⟨_, rfl, _, rfl, D4, fs, ((i : Nat) : Int), i, rfl, rfl, e4b, ixNn (by omega), ?_⟩
                  exact ⟨same_set s6 n4, _, ms, _, _, _, _, (by rw [List.length_set]; exact hf), hm, upd_same, (by rw [upd_ne (Ne.symm nD45)]; exact e5b), rfl⟩
                · refine ⟨_, rfl, _, rfl, D2, _, ((i + 1 : Nat) : Int), _, rfl, rfl, S2 _ s6, atI_nat g4, ?_⟩
                  refine ⟨_, rfl, _, rfl, D5, ms, ((i : Nat) : Int), i, rfl, rfl, e5b, ixNn (by omega), ?_⟩
                  exact ⟨same_set s6 n5', fs, _, _, _, _, _, hf, (by rw [List.length_set]; exact hm), (by rw [upd_ne nD45]; exact e4b), upd_same, rfl⟩
            · refine ⟨_, rfl, _, _, rfl, rfl, _, rfl, _, _, rfl, ?_⟩
              · have g3 : xs[i]? = some (V.str (sexC ((along b r).getD (i) false))) := by
                  rw [← hxs, List.getElem?_map, getD_some (by rw [along_len]; omega : i < (along b r).length) (d := false)]
                  rfl
                have g4 : (zs.map V.str)[i]? = some (V.str (zs.getD (i) Str.empty)) := by
                  rw [List.getElem?_map, getD_some (l := zs) (k := i) (d := Str.empty) (by omega)]
                  rfl
                refine ⟨_, rfl, _, rfl, p1, xs, ((i : Nat) : Int), _, rfl, rfl, .inl (.inl e1b), atI_nat g3, rfl, _, rfl, ?_⟩
                refine ite2 (fun _ => ?_) (fun _ => ?_)
                · refine ⟨_, rfl, _, rfl, D2, _, ((i : Nat) : Int), _, rfl, rfl, S2 _ s6, atI_nat g4, ?_⟩
                  refine ⟨_, rfl, _, rfl, D4, fs, ((i + 1 : Nat) : Int), i + 1, rfl, rfl, e4b, ixNn (by omega), ?_⟩
                  exact ⟨same_set s6 n4, _, ms, _, _, _, _, (by rw [List.length_set]; exact hf), hm, upd_same, (by rw [upd_ne (Ne.symm nD45)]; exact e5b), rfl⟩
                · refine ⟨_, rfl, _, rfl, D2, _, ((i : Nat) : Int), _, rfl, rfl, S2 _ s6, atI_nat g4, ?_⟩
                  refine ⟨_, rfl, _, rfl, D5, ms, ((i + 1 : Nat) : Int), i + 1, rfl, rfl, e5b, ixNn (by omega), ?_⟩
                  exact ⟨same_set s6 n5', fs, _, _, _, _, _, hf, (by rw [List.length_set]; exact hm), (by rw [upd_ne nD45]; exact e4b), upd_same, rfl⟩
          · rintro σ H5 ⟨s5, fs, ms, x6, x7, x8, x9, hf, hm, e4, e5, rfl⟩
            refine ⟨_, rfl, _, rfl, _, rfl, _, rfl, D2, p1, D4, D5, zs.map V.str, xs, fs, ms, rfl, S2 _ s5, .inl (.inl (s5 _ _ e1')), .inl (.inl e4), .inl (.inl e5), ?_, ?_, ?_, ?_, ?_⟩
            · rw [List.length_map]; omega
            · rw [List.length_map]; omega
            · rw [List.length_map]; omega
            · rw [List.length_map]; omega
            · intro H6 D Ts s6 eD hT hrow
              exact q H6 D Ts (s02.trans (s5.trans s6)) eD (by rw [hT, List.length_map]; exact hz) fun j T hj => ⟨_, _, _, _, hrow j T hj⟩
end
end K05

set_option maxHeartbeats 4000000
namespace K05
open PySem PySem.Spec PyProof.Rows L2 Kin
abbrev s_in_births : Stmt := top 37
abbrev N_in_births : List Str := ["persons", "depths", "births", "at", "depth", "_"]
theorem sc_in_births : FnScope N_in_births ["persons", "depths"] (defScope s_in_births) := ⟨rfl, rfl, rfl, by decide +kernel, rfl, by decide +kernel, by decide +kernel⟩
abbrev s_chain_of : Stmt := top 38
abbrev N_chain_of : List Str := ["sex", "row", "persons"]
theorem sc_chain_of : FnScope N_chain_of ["sex", "row"] (defScope s_chain_of) := ⟨rfl, rfl, rfl, by decide +kernel, rfl, by decide +kernel, by decide +kernel⟩
abbrev s_chain : Stmt := top 39
abbrev N_chain : List Str := ["sex", "row"]
theorem sc_chain : FnScope N_chain ["sex", "row"] (defScope s_chain) := ⟨rfl, rfl, rfl, by decide +kernel, rfl, by decide +kernel, by decide +kernel⟩
structure TxtC (K : PySem.W.Frag) (mg : Str → Option Value) extends TxtP K mg where
  n_sorted : mg "sorted" = none
  n_tuple : mg "tuple" = none
  a_in_births : Addr
  f_in_births : FuncData
  d_in_births : Df K mg "in_births" s_in_births ["persons", "depths"] a_in_births f_in_births
  a_chain_of : Addr
  f_chain_of : FuncData
  d_chain_of : Df K mg "chain_of" s_chain_of ["sex", "row"] a_chain_of f_chain_of
  a_chain : Addr
  f_chain : FuncData
  d_chain : Df K mg "chain" s_chain ["sex", "row"] a_chain f_chain
section
variable {P : Program} {w : World} {K : PySem.W.Frag} {mg : Str → Option Value} {base : Heap}
def sp_chain_of : Sp := fun vs H Q _ => ∃ (b : Bool) (r : List Nat), vs = [.str (sexC b), .str (rowS r)] ∧ r.length ≤ 900 ∧
  ∀ H' t f x y xs, Same H H' → H' t = some (.tup [.ref f, x, y]) → H' f = some (.tup xs) → xs.length = r.length + 1 → Q (.ref t) H'
def sp_in_births (K : PySem.W.Frag) : Sp := fun vs H Q _ => ∃ (p1 pd : Addr) (Ts : List Addr) (ds : List Int), vs = [.ref p1, .ref pd] ∧ H p1 = some (.lst (Ts.map V.ref)) ∧ H pd = some (.lst (ds.map V.int)) ∧ Ts.length ≤ 901 ∧ ds.length = Ts.length ∧
  ∀ H' l xs, Same H H' → H' l = some (.tup xs) → xs.length = Ts.length → Q (.ref l) H'
theorem ok_in_births (T : TxtC K mg) : FnOk P w K mg base CX0 1 T.a_in_births T.f_in_births ["persons", "depths"] (sp_in_births K) := by
  refine T.d_in_births.F.ok sc_in_births (fun vs H Q E h => ?_) (fun cdv A outer s H2 vs Q E hr h => ?_)
  · obtain ⟨p1, pd, Ts, ds, rfl, _⟩ := h
    rfl
  · obtain ⟨p1, pd, Ts, ds, rfl, e1, e2, hl, hds, q⟩ := h
    refine ⟨_, (pss_cons (ps_set (i := 2) sc_in_births.nd rfl (Or.inl rfl) (pe_callB cr_sortedP (by rfl) T.n_sorted boot_sorted (pa_cons (pe_lc (own := [("at", 3), ("depth", 4)]) (g := gTup K 2 (gCons (gName 3) (gCons (gName 4) gNil))) (tt := tYes) rfl sc_in_births.nd (pi_enum (by rfl) T.n_enumerate (pa_cons (pv 1) pa_nil)) (blkOk_by (N := N_in_births) (sc := defScope s_in_births) (by decide +kernel)) (fun _ _ _ _ _ => by exact (pg_tup rfl (pgs_cons (pg_name (i := 3) sc_in_births.nd rfl (Or.inl rfl)) (pgs_cons (pg_name (i := 4) sc_in_births.nd rfl (Or.inl rfl)) pgs_nil)))) (fun _ _ _ _ _ => pts_nil) (fun _ _ _ _ _ => (pe_tup (pa_cons (pv 4) (pa_cons (pv 3) pa_nil))))) pa_nil)))
      (pss_one (ps_ret (pe_callTy call_tuple_of (by rfl) T.n_tuple b_tuple (pa_cons (pe_lc (own := [("_", 5), ("at", 3)]) (g := gTup K 2 (gCons (gName 5) (gCons (gName 3) gNil))) (tt := tYes) rfl sc_in_births.nd (pi_list (pv 2)) (blkOk_by (N := N_in_births) (sc := defScope s_in_births) (by decide +kernel)) (fun _ _ _ _ _ => by exact (pg_tup rfl (pgs_cons (pg_name (i := 5) sc_in_births.nd rfl (Or.inl rfl)) (pgs_cons (pg_name (i := 3) sc_in_births.nd rfl (Or.inl rfl)) pgs_nil)))) (fun _ _ _ _ _ => pts_nil) (fun _ _ _ _ _ => (pe_ix (r := rIxL K) ix_list (pv 0) (pv 3) (fun _ _ => rfl)))) pa_nil))))), ?_⟩
    refine ⟨_, rfl, pd, ds.map V.int, rfl, .inl (.inl e2), fun D nD => ?_⟩
    have Spd : ∀ H', Same H2 H' → SqL K H' pd (ds.map V.int) := fun H' s => .inl (.inl (s _ _ e2))
    refine lc_itY (walk_enum (K := K) (a := pd) (xs := ds.map V.int)) (fun i H' => Same H2 H' ∧ ∃ ts : List Addr, ts.length = i ∧ H' D = some (.lst (ts.map V.ref)) ∧ ∀ (j : Nat) (t : Addr), ts[j]? = some t → ∃ d : Int, H' t = some (.tup [.int d, .int (j : Nat)])) ?_ (fun i H' _ p => Spd H' p.1) ?_ ?_
    · exact ⟨same_upd nD, [], rfl, upd_same, fun j t e => by cases e⟩
    · rintro i v H3 H4 hi ⟨s3, ts, hts, e3, hrow⟩ ⟨Tu, x, y, rfl, nT, rfl, ex, ey⟩
      have ex : x = .int (i : Nat) := (Option.some.inj ex).symm
      subst ex
      have ey : ∃ d : Int, y = .int d := by
        have ey : (ds.map V.int)[i]? = some y := ey
        rw [List.getElem?_map] at ey
        cases h : ds[i]? with
        | none => rw [h] at ey; cases ey
        | some d => rw [h] at ey; exact ⟨d, (Option.some.inj ey).symm⟩
      obtain ⟨d, rfl⟩ := ey
      rw [List.length_map] at hi
      refine ⟨Tu, _, rfl, .inl (.inl upd_same), rfl, _, _, rfl, _, _, rfl, rfl, rfl, ?_⟩
      have s4 : Same H3 (upd H3 Tu (.tup [.int (i : Nat), .int d])) := same_upd nT
      generalize upd H3 Tu (.tup [.int (i : Nat), .int d]) = H4 at s4 ⊢
      refine ⟨_, rfl, _, rfl, by show 2 ≤ sizeLine; decide, fun t nt => ?_⟩
      have eD : upd H4 t (.tup [.int d, .int (i : Nat)]) D = some (.lst (ts.map V.ref)) := same_upd nt _ _ (s4 _ _ e3)
      have n5 : H3 t = none := s4.free nt
      have s5 : Same H3 (upd H4 t (.tup [.int d, .int (i : Nat)])) := s4.trans (same_upd nt)
      have e5 : upd H4 t (.tup [.int d, .int (i : Nat)]) t = some (.tup [.int d, .int (i : Nat)]) := upd_same
      have ntD : t ≠ D := fun z => by rw [z, e3] at n5; cases n5
      generalize upd H4 t (.tup [.int d, .int (i : Nat)]) = H5 at eD s5 e5 ⊢
      refine ⟨_, eD, ?_, same_set (s3.trans s5) nD, ts ++ [t], ?_, ?_, ?_⟩
      · rw [List.length_map, sizeLine_eq]
        omega
      · rw [List.length_append, hts]
        rfl
      · rw [upd_same, List.map_append]
        rfl
      · intro j u hj
        by_cases hji : j < ts.length
        · rw [List.getElem?_append_left hji] at hj
          obtain ⟨d', e'⟩ := hrow j u hj
          refine ⟨d', ?_⟩
          rw [upd_ne (fun z => by rw [z, e3] at e'; cases e')]
          exact s5 _ _ e'
        · have hj' : j = i := by
            have := (List.getElem?_eq_some_iff.mp hj).1
            rw [List.length_append] at this
            simp at this
            omega
          subst hj'
          rw [List.getElem?_append_right (by omega), hts] at hj
          simp at hj
          subst hj
          exact ⟨d, by rw [upd_ne ntD]; exact e5⟩
    · rintro H3 ⟨s3, ts, hts, e3, hrow⟩
      rw [List.length_map, hds] at hts
      refine ⟨D, _, rfl, .inl (.inl e3), ?_, fun ys p3 perm n3 => ?_⟩
      · intro x hx
        obtain ⟨t, ht, rfl⟩ := List.mem_map.mp hx
        obtain ⟨j, hj⟩ := List.getElem?_of_mem ht
        obtain ⟨d, e⟩ := hrow j t hj
        exact ⟨t, d, j, rfl, e⟩
      have hys : ys.length = Ts.length := by rw [perm.length_eq, List.length_map, hts]
      have hrow' : ∀ x ∈ ys, ∃ (t : Addr) (d : Int) (j : Nat), x = V.ref t ∧ j < Ts.length ∧ H3 t = some (.tup [.int d, .int (j : Nat)]) := fun x hx => by
        obtain ⟨t, ht, rfl⟩ := List.mem_map.mp (perm.mem_iff.mp hx)
        obtain ⟨j, hj⟩ := List.getElem?_of_mem ht
        obtain ⟨d, e⟩ := hrow j t hj
        exact ⟨t, d, j, rfl, by have := (List.getElem?_eq_some_iff.mp hj).1; omega, e⟩
      clear hrow e3 hts perm
      have s4 : Same H3 (upd H3 p3 (.lst ys)) := same_upd n3
      have e4 : upd H3 p3 (.lst ys) p3 = some (.lst ys) := upd_same
      generalize upd H3 p3 (.lst ys) = H4 at s4 e4 ⊢
      have S3 : ∀ H', Same H4 H' → SqL K H' p3 ys := fun H' s => .inl (.inl (s _ _ e4))
      have s24 : Same H2 H4 := s3.trans s4
      have Sp1 : ∀ H', Same H4 H' → SqL K H' p1 (Ts.map V.ref) := fun H' s => .inl (.inl (s _ _ (s24 _ _ e1)))
      refine ⟨_, rfl, p3, rfl, ⟨ys, .inl (.inl e4)⟩, fun D2 nD2 => ?_⟩
      refine lc_itY (walk_list (K := K) (a := p3) (xs := ys)) (fun i H' => Same H4 H' ∧ ∃ fs : List V, fs.length = i ∧ H' D2 = some (.lst fs)) ?_ (fun i H' _ p => S3 H' p.1) ?_ ?_
      · exact ⟨same_upd nD2, [], rfl, upd_same⟩
      · rintro i v H5 H5' hi ⟨s5, fs, hfs, e5⟩ ⟨rfl, ev⟩
        obtain ⟨t, d, j, rfl, hj, et⟩ := hrow' v (List.mem_of_getElem? ev)
        refine ⟨t, _, rfl, .inl (.inl (s5 _ _ (s4 _ _ et))), rfl, _, _, rfl, _, _, rfl, rfl, rfl, ?_⟩
        have g : (Ts.map V.ref)[j]? = some (V.ref (Ts.getD j 0)) := by
          rw [List.getElem?_map, getD_some (l := Ts) (k := j) (d := 0) (by omega)]
          rfl
        refine ⟨_, rfl, _, rfl, p1, _, ((j : Nat) : Int), _, rfl, rfl, Sp1 _ s5, atI_nat g, ?_⟩
        refine ⟨_, e5, ?_, same_set s5 nD2, fs ++ [_], ?_, upd_same⟩
        · rw [sizeLine_eq]
          omega
        · rw [List.length_append, hfs]
          rfl
      · rintro H5 ⟨s5, fs, hfs, e5⟩
        rw [hys] at hfs
        refine ⟨D2, fs, rfl, .inl ⟨.inl (.inl e5), fun l nl => ?_⟩⟩
        have s6 : Same H5 (upd H5 l (.tup fs)) := same_upd nl
        have e6 : upd H5 l (.tup fs) l = some (.tup fs) := upd_same
        generalize upd H5 l (.tup fs) = H6 at s6 e6 ⊢
        have s46 : Same H4 H6 := s5.trans s6
        exact q _ l fs (s24.trans (s46)) e6 hfs
theorem ok_chain_of (T : TxtC K mg) : FnOk P w K mg base CX0 4 T.a_chain_of T.f_chain_of ["sex", "row"] sp_chain_of := by
  have G_chain_persons : FnOk P w K mg base CX0 3 T.a_chain_persons T.f_chain_persons ["sex", "row"] sp_chain_persons := ok_chain_persons T.toTxtP
  have G_depths_along : FnOk P w K mg base CX0 1 T.a_depths_along T.f_depths_along ["row"] sp_depths_along := ok_depths_along T.toTxtN
  have G_in_births : FnOk P w K mg base CX0 1 T.a_in_births T.f_in_births ["persons", "depths"] (sp_in_births K) := ok_in_births T
  refine T.d_chain_of.F.ok sc_chain_of (fun vs H Q E h => ?_) (fun cdv A outer s H vs Q E hr h => ?_)
  · obtain ⟨b, r, rfl, _⟩ := h
    rfl
  · obtain ⟨b, r, rfl, hl, q⟩ := h
    refine ⟨_, (pss_cons (ps_set (i := 2) sc_chain_of.nd rfl (Or.inl rfl) (pe_call G_chain_persons (hr.mono (by decide)) rfl T.d_chain_persons.g T.d_chain_persons.F.kp T.d_chain_persons.b .nil pass0 (pa_cons (pv 0) (pa_cons (pv 1) pa_nil))))
      (pss_one (ps_ret (pe_tup (pa_cons (pe_call G_in_births (hr.mono (by decide)) rfl T.d_in_births.g T.d_in_births.F.kp T.d_in_births.b .nil pass0 (pa_cons (pv 2) (pa_cons (pe_call G_depths_along (hr.mono (by decide)) rfl T.d_depths_along.g T.d_depths_along.F.kp T.d_depths_along.b .nil pass0 (pa_cons (pv 1) pa_nil)) pa_nil))) (pa_cons (pe_ix ix_tup (pe_ix ix_list (pv 2) pe_int (fun _ _ => rfl)) pe_int (fun _ _ => rfl)) (pa_cons (pe_ix ix_tup (pe_ix ix_list (pv 2) (pe_un un_neg pe_int) (fun _ _ => rfl)) pe_int (fun _ _ => rfl)) pa_nil))))))), ?_⟩
    refine ⟨_, rfl, _, rfl, b, r, rfl, hl, fun H1 p1 Ts s1 e1 hTs hT => ?_⟩
    refine ⟨_, rfl, _, rfl, r, rfl, by omega, fun H2 pd ds s2 n2 e2 hds => ?_⟩
    refine ⟨p1, pd, Ts, ds, rfl, s2 _ _ e1, e2, by omega, by omega, fun H6 l fs s26 e6 hfs => ?_⟩
    have hne : Ts ≠ [] := fun z => by rw [z] at hTs; simp at hTs
    have g0 : (Ts.map V.ref)[0]? = some (V.ref (Ts.getD 0 0)) := by
      rw [List.getElem?_map, getD_some (l := Ts) (k := 0) (d := 0) (by omega)]
      rfl
    have gl : Ts.map V.ref = Ts.dropLast.map V.ref ++ [V.ref (Ts.getLast hne)] := by
      conv => lhs; rw [← List.dropLast_concat_getLast hne, List.map_append]
      rfl
    have ga : atI (Ts.map V.ref) (-1) = some (V.ref (Ts.getLast hne)) := by
      rw [gl]
      exact atI_last _ _
    obtain ⟨a1, a2, a3, a4, ea⟩ := hT 0 (Ts.getD 0 0) (getD_some (l := Ts) (k := 0) (d := 0) (by omega))
    obtain ⟨jl, hjl⟩ := List.getElem?_of_mem (List.getLast_mem hne)
    obtain ⟨b1, b2, b3, b4, eb⟩ := hT jl _ hjl
    have s16 : Same H1 H6 := s2.trans s26
    have Sp6 : SqL K H6 p1 (Ts.map V.ref) := .inl (.inl (s16 _ _ e1))
    refine ⟨_, rfl, p1, _, 0, _, rfl, rfl, Sp6, atI_nat g0, Ts.getD 0 0, _, 0, a1, rfl, rfl, .inl (.inl (s16 _ _ ea)), rfl, ?_⟩
    refine ⟨_, rfl, _, rfl, p1, _, -1, _, rfl, rfl, Sp6, ga, Ts.getLast hne, _, 0, b1, rfl, rfl, .inl (.inl (s16 _ _ eb)), rfl, ?_⟩
    refine ⟨by show 3 ≤ sizeLine; decide, fun t nt => ?_⟩
    exact q _ t l a1 b1 fs (s1.trans (s16.trans (same_upd nt))) upd_same (same_upd nt _ _ e6) (by omega)
theorem ok_chain (T : TxtC K mg) : FnOk P w K mg base (L2.CX P w) 5 T.a_chain T.f_chain ["sex", "row"] (sp_step K T.aNoSex T.aNoRow (R_chain T.aNoRow)) := by
  have G_need_sex : FnOk P w K mg base (L2.CX P w) 2 T.a_need_sex T.f_need_sex ["thing"] (sp_need_sex K T.aNoSex) := ok_need_sex T.toTxt2
  have G_need_row : FnOk P w K mg base (L2.CX P w) 2 T.a_need_row T.f_need_row ["thing"] (sp_need_row K T.aNoRow) := ok_need_row T.toTxt2
  have G_goes_straight : FnOk P w K mg base CX0 3 T.a_goes_straight T.f_goes_straight ["sex", "row"] sp_goes_straight := ok_goes_straight T.toTxt2
  have G_chain_of : FnOk P w K mg base CX0 4 T.a_chain_of T.f_chain_of ["sex", "row"] sp_chain_of := ok_chain_of T
  refine T.d_chain.F.okX sc_chain (fun vs H Q E h => ?_) (fun cdv A outer s H vs Q E hr h => ?_)
  · obtain ⟨x, y, rfl, _⟩ := h
    rfl
  · obtain ⟨x, y, rfl, hx, hy, e1, e2, q⟩ := h
    refine ⟨_, (pss_cons (ps_expr (pe_callS G_need_sex (hr.mono (by decide)) rfl T.d_need_sex.g T.d_need_sex.F.kp T.d_need_sex.b (fun σ => passAt (takes_of rfl rfl rfl rfl) σ) (pa_cons (pv 0) pa_nil)))
      (pss_cons (ps_expr (pe_callS G_need_row (hr.mono (by decide)) rfl T.d_need_row.g T.d_need_row.F.kp T.d_need_row.b (fun σ => passAt (takes_of rfl rfl rfl rfl) σ) (pa_cons (pv 1) pa_nil)))
      (pss_cons (ps_if (pt_not (pt_val (pe_call G_goes_straight (hr.mono (by decide)) rfl T.d_goes_straight.g T.d_goes_straight.F.kp T.d_goes_straight.b .nil pass0 (pa_cons (pv 0) (pa_cons (pv 1) pa_nil)))))
        (pss_one (ps_raise rfl (takes_of rfl rfl rfl rfl) (pmk_own PySem.F.excBase_ValueError T.c_NoRow.x T.c_NoRow.g T.c_NoRow.k (raises_own T.c_NoRow.b T.c_NoRow.t) (by exact rfl))))
        pss_nil)
      (pss_one (ps_ret (pe_call G_chain_of (hr.mono (by decide)) rfl T.d_chain_of.g T.d_chain_of.F.kp T.d_chain_of.b .nil pass0 (pa_cons (pv 0) (pa_cons (pv 1) pa_nil)))))))), ?_⟩
    refine ⟨x, rfl, x, rfl, hx, fun hs => ?_, e1⟩
    refine ⟨y, rfl, y, rfl, hy, fun H1 s1 => ⟨fun hr' => ?_, fun hr' => e2 hs hr' H1 s1⟩⟩
    obtain ⟨b, rfl⟩ := of_sexV hs
    obtain ⟨r, rfl, hl, _⟩ := of_rowV hr'
    obtain ⟨q1, q2⟩ := q b r rfl rfl hr'
    refine ⟨_, rfl, _, rfl, b, r, rfl, by omega, fun H2 s2 => ⟨_, rfl, ?_⟩⟩
    cases e : straight b r with
    | true => exact iteF ⟨_, rfl, _, rfl, b, r, rfl, by omega, fun H3 t f u v xs s3 => q2 e H3 t f u v xs (s1.trans (s2.trans s3))⟩
    | false => exact iteT (q1 e _ (s1.trans s2))
theorem ok_is_straight' (T : Txt2 K mg) : FnOk P w K mg base (L2.CX P w) 4 T.a_is_straight T.f_is_straight ["sex", "row"] (sp_step K T.aNoSex T.aNoRow R_straight) := ok_is_straight T
end
end K05

set_option maxHeartbeats 4000000
namespace K05
open PySem PySem.Spec PyProof.Rows L2 Kin
theorem df_mk {K : PySem.W.Frag} {mg : Str → Option Value} {h : Heap} {x : Str} {st : Stmt} {ps : List Str} {f : Addr} {oc : Value} {od an : Option Addr} {osl : Array (Option Value)} {kV doc pm cdv ct : Value} (X : K.In h) (G : h.Ns mainGlobals mg)
    (a : PySem.W.nsIn K mainGlobals x = some (some (.ref f))) (l : K.lookup f = some ⟨oc, od, .func (PySem.W.fnOf x x (defArgs st) (defBody st) (defScope st) .none kV doc pm an cdv ct), osl⟩) (c : PySem.W.codeIn K cdv x = true) (k : PySem.W.keepIn K (.ref f) = true)
    (b : ∀ (kV doc pm : Value) (an : Option Addr) (cdv ct : Value) (us : List Value), us.length = ps.length → bindArgs (PySem.W.fnOf x x (defArgs st) (defBody st) (defScope st) .none kV doc pm an cdv ct) ⟨us, []⟩ = pure (ps.zip us)) :
    Df K mg x st ps f (PySem.W.fnOf x x (defArgs st) (defBody st) (defScope st) .none kV doc pm an cdv ct) :=
  ⟨fun_mk l c k, (fun_mk (st := st) l c k).binds b, PySem.W.mg_of X G a⟩
theorem clsIf {K : PySem.W.Frag} {C : Addr} (i : PySem.W.isClsIn K C = true) (t : PySem.W.typeIn K (.ref C) = some (.type "type")) : ((PySem.W.clsIn K C).isSome && PySem.W.typeIn K (.ref C) == some (.type "type")) = true := by
  have i' : (PySem.W.clsIn K C).isSome = true := i
  rw [i', t] <;> rfl
theorem kit_self {K : PySem.W.Frag} {D : Addr} : PySem.W.kitOne K (.ref D) (.ref D) = some true := by
  unfold PySem.W.kitOne
  rw [if_pos (beq_self_eq_true _)]
theorem kit_no {K : PySem.W.Frag} {C D : Addr} (i : PySem.W.isClsIn K C = true) (t : PySem.W.typeIn K (.ref C) = some (.type "type")) (s0 : PySem.W.subIn K (.ref D) (.ref D) = some true) (s : PySem.W.subIn K (.ref D) (.ref C) = some false) : PySem.W.kitOne K (.ref D) (.ref C) = some false := by
  have ne : ¬ ((Value.ref D == Value.ref C) = true) := fun z => by
    cases eq_of_beq z
    rw [s0] at s
    cases s
  unfold PySem.W.kitOne
  rw [if_neg ne]
  show (if ((PySem.W.clsIn K C).isSome && PySem.W.typeIn K (.ref C) == some (.type "type")) = true then PySem.W.subIn K (.ref D) (.ref C) else none) = _
  rw [if_pos (clsIf i t)]
  exact s
theorem kit_type {K : PySem.W.Frag} {D : Addr} {T : String} (m : PySem.W.kitMeta T = true) (s : PySem.W.subIn K (.ref D) (.type T) = some true) : PySem.W.kitOne K (.ref D) (.type T) = some true := by
  have ne : ¬ ((Value.ref D == Value.type T) = true) := fun z => by cases eq_of_beq z
  unfold PySem.W.kitOne
  rw [if_neg ne]
  show (if PySem.W.kitMeta T = true then PySem.W.subIn K (.ref D) (.type T) else none) = _
  rw [if_pos m]
  exact s
theorem exm_mk {K : PySem.W.Frag} {C D : Addr} (h1 : PySem.W.subIn K (.ref C) (.type "BaseException") = some true) (i : PySem.W.isClsIn K C = true) (t : PySem.W.typeIn K (.ref C) = some (.type "type")) (s : PySem.W.subIn K (.ref D) (.ref C) = some true) : PySem.W.exmOne K (.ref D) (.ref C) = some true := by
  have e1 : (PySem.W.subIn K (.ref C) (.type "BaseException") == some true) = true := by rw [h1] <;> rfl
  show (if (PySem.W.subIn K (.ref C) (.type "BaseException") == some true) = true then (if ((PySem.W.clsIn K C).isSome && PySem.W.typeIn K (.ref C) == some (.type "type")) = true then PySem.W.subIn K (.ref D) (.ref C) else none) else none) = some true
  rw [if_pos e1, if_pos (clsIf i t)]
  exact s
theorem all_mk {l : PySem.W.OpenLaw} {w : World} {K : PySem.W.Frag} {h : Heap} {mg : Str → Option Value} {fa f1 f2 f3 f4 f5 f6 f7 f8 f9 f10 f11 f12 f13 f14 f15 f16 f17 f18 f19 f20 f21 f22 C0 C1 C2 C3 C4 C5 C6 C7 C8 C9 C10 C11 C12 C13 aK aS : Addr} (X : K.In h) (G : h.Ns mainGlobals mg) (hfa : mg "law" = some (.ref fa))
    {od1 an1 od2 an2 od3 an3 od4 an4 od5 an5 od6 an6 od7 an7 od8 an8 od9 an9 od10 an10 od11 an11 od12 an12 od13 an13 od14 an14 od15 an15 od16 an16 od17 an17 od18 an18 od19 an19 od20 an20 od21 an21 od22 an22 odS : Option Addr} {sl1 sl2 sl3 sl4 sl5 sl6 sl7 sl8 sl9 sl10 sl11 sl12 sl13 sl14 sl15 sl16 sl17 sl18 sl19 sl20 sl21 sl22 slS : Array (Option Value)}
    {oc1 kV1 dc1 pm1 cd1 ct1 oc2 kV2 dc2 pm2 cd2 ct2 oc3 kV3 dc3 pm3 cd3 ct3 oc4 kV4 dc4 pm4 cd4 ct4 oc5 kV5 dc5 pm5 cd5 ct5 oc6 kV6 dc6 pm6 cd6 ct6 oc7 kV7 dc7 pm7 cd7 ct7 oc8 kV8 dc8 pm8 cd8 ct8 oc9 kV9 dc9 pm9 cd9 ct9 oc10 kV10 dc10 pm10 cd10 ct10 oc11 kV11 dc11 pm11 cd11 ct11 oc12 kV12 dc12 pm12 cd12 ct12 oc13 kV13 dc13 pm13 cd13 ct13 oc14 kV14 dc14 pm14 cd14 ct14 oc15 kV15 dc15 pm15 cd15 ct15 oc16 kV16 dc16 pm16 cd16 ct16 oc17 kV17 dc17 pm17 cd17 ct17 oc18 kV18 dc18 pm18 cd18 ct18 oc19 kV19 dc19 pm19 cd19 ct19 oc20 kV20 dc20 pm20 cd20 ct20 oc21 kV21 dc21 pm21 cd21 ct21 oc22 kV22 dc22 pm22 cd22 ct22 : Value} {tS tU tM tL tH1 tH2 : Tok} {nS : Nat}
    (a1 : PySem.W.nsIn K mainGlobals "is_sex" = some (some (.ref f1))) (l1 : K.lookup f1 = some ⟨oc1, od1, .func (PySem.W.fnOf "is_sex" "is_sex" (defArgs s_is_sex) (defBody s_is_sex) (defScope s_is_sex) .none kV1 dc1 pm1 an1 cd1 ct1), sl1⟩) (c1 : PySem.W.codeIn K cd1 "is_sex" = true) (k1 : PySem.W.keepIn K (.ref f1) = true)
    (a2 : PySem.W.nsIn K mainGlobals "is_row" = some (some (.ref f2))) (l2 : K.lookup f2 = some ⟨oc2, od2, .func (PySem.W.fnOf "is_row" "is_row" (defArgs s_is_row) (defBody s_is_row) (defScope s_is_row) .none kV2 dc2 pm2 an2 cd2 ct2), sl2⟩) (c2 : PySem.W.codeIn K cd2 "is_row" = true) (k2 : PySem.W.keepIn K (.ref f2) = true)
    (a3 : PySem.W.nsIn K mainGlobals "need_sex" = some (some (.ref f3))) (l3 : K.lookup f3 = some ⟨oc3, od3, .func (PySem.W.fnOf "need_sex" "need_sex" (defArgs s_need_sex) (defBody s_need_sex) (defScope s_need_sex) .none kV3 dc3 pm3 an3 cd3 ct3), sl3⟩) (c3 : PySem.W.codeIn K cd3 "need_sex" = true) (k3 : PySem.W.keepIn K (.ref f3) = true)
    (a4 : PySem.W.nsIn K mainGlobals "need_row" = some (some (.ref f4))) (l4 : K.lookup f4 = some ⟨oc4, od4, .func (PySem.W.fnOf "need_row" "need_row" (defArgs s_need_row) (defBody s_need_row) (defScope s_need_row) .none kV4 dc4 pm4 an4 cd4 ct4), sl4⟩) (c4 : PySem.W.codeIn K cd4 "need_row" = true) (k4 : PySem.W.keepIn K (.ref f4) = true)
    (a5 : PySem.W.nsIn K mainGlobals "sex_behind" = some (some (.ref f5))) (l5 : K.lookup f5 = some ⟨oc5, od5, .func (PySem.W.fnOf "sex_behind" "sex_behind" (defArgs s_sex_behind) (defBody s_sex_behind) (defScope s_sex_behind) .none kV5 dc5 pm5 an5 cd5 ct5), sl5⟩) (c5 : PySem.W.codeIn K cd5 "sex_behind" = true) (k5 : PySem.W.keepIn K (.ref f5) = true)
    (a6 : PySem.W.nsIn K mainGlobals "sexes_along" = some (some (.ref f6))) (l6 : K.lookup f6 = some ⟨oc6, od6, .func (PySem.W.fnOf "sexes_along" "sexes_along" (defArgs s_sexes_along) (defBody s_sexes_along) (defScope s_sexes_along) .none kV6 dc6 pm6 an6 cd6 ct6), sl6⟩) (c6 : PySem.W.codeIn K cd6 "sexes_along" = true) (k6 : PySem.W.keepIn K (.ref f6) = true)
    (a7 : PySem.W.nsIn K mainGlobals "back_step" = some (some (.ref f7))) (l7 : K.lookup f7 = some ⟨oc7, od7, .func (PySem.W.fnOf "back_step" "back_step" (defArgs s_back_step) (defBody s_back_step) (defScope s_back_step) .none kV7 dc7 pm7 an7 cd7 ct7), sl7⟩) (c7 : PySem.W.codeIn K cd7 "back_step" = true) (k7 : PySem.W.keepIn K (.ref f7) = true)
    (a8 : PySem.W.nsIn K mainGlobals "goes_straight" = some (some (.ref f8))) (l8 : K.lookup f8 = some ⟨oc8, od8, .func (PySem.W.fnOf "goes_straight" "goes_straight" (defArgs s_goes_straight) (defBody s_goes_straight) (defScope s_goes_straight) .none kV8 dc8 pm8 an8 cd8 ct8), sl8⟩) (c8 : PySem.W.codeIn K cd8 "goes_straight" = true) (k8 : PySem.W.keepIn K (.ref f8) = true)
    (a9 : PySem.W.nsIn K mainGlobals "is_straight" = some (some (.ref f9))) (l9 : K.lookup f9 = some ⟨oc9, od9, .func (PySem.W.fnOf "is_straight" "is_straight" (defArgs s_is_straight) (defBody s_is_straight) (defScope s_is_straight) .none kV9 dc9 pm9 an9 cd9 ct9), sl9⟩) (c9 : PySem.W.codeIn K cd9 "is_straight" = true) (k9 : PySem.W.keepIn K (.ref f9) = true)
    (a10 : PySem.W.nsIn K mainGlobals "turned_row" = some (some (.ref f10))) (l10 : K.lookup f10 = some ⟨oc10, od10, .func (PySem.W.fnOf "turned_row" "turned_row" (defArgs s_turned_row) (defBody s_turned_row) (defScope s_turned_row) .none kV10 dc10 pm10 an10 cd10 ct10), sl10⟩) (c10 : PySem.W.codeIn K cd10 "turned_row" = true) (k10 : PySem.W.keepIn K (.ref f10) = true)
    (a11 : PySem.W.nsIn K mainGlobals "turned" = some (some (.ref f11))) (l11 : K.lookup f11 = some ⟨oc11, od11, .func (PySem.W.fnOf "turned" "turned" (defArgs s_turned) (defBody s_turned) (defScope s_turned) .none kV11 dc11 pm11 an11 cd11 ct11), sl11⟩) (c11 : PySem.W.codeIn K cd11 "turned" = true) (k11 : PySem.W.keepIn K (.ref f11) = true)
    (a12 : PySem.W.nsIn K mainGlobals "name_of" = some (some (.ref f12))) (l12 : K.lookup f12 = some ⟨oc12, od12, .func (PySem.W.fnOf "name_of" "name_of" (defArgs s_name_of) (defBody s_name_of) (defScope s_name_of) .none kV12 dc12 pm12 an12 cd12 ct12), sl12⟩) (c12 : PySem.W.codeIn K cd12 "name_of" = true) (k12 : PySem.W.keepIn K (.ref f12) = true)
    (a13 : PySem.W.nsIn K mainGlobals "chain_persons" = some (some (.ref f13))) (l13 : K.lookup f13 = some ⟨oc13, od13, .func (PySem.W.fnOf "chain_persons" "chain_persons" (defArgs s_chain_persons) (defBody s_chain_persons) (defScope s_chain_persons) .none kV13 dc13 pm13 an13 cd13 ct13), sl13⟩) (c13 : PySem.W.codeIn K cd13 "chain_persons" = true) (k13 : PySem.W.keepIn K (.ref f13) = true)
    (a14 : PySem.W.nsIn K mainGlobals "depths_along" = some (some (.ref f14))) (l14 : K.lookup f14 = some ⟨oc14, od14, .func (PySem.W.fnOf "depths_along" "depths_along" (defArgs s_depths_along) (defBody s_depths_along) (defScope s_depths_along) .none kV14 dc14 pm14 an14 cd14 ct14), sl14⟩) (c14 : PySem.W.codeIn K cd14 "depths_along" = true) (k14 : PySem.W.keepIn K (.ref f14) = true)
    (a15 : PySem.W.nsIn K mainGlobals "in_births" = some (some (.ref f15))) (l15 : K.lookup f15 = some ⟨oc15, od15, .func (PySem.W.fnOf "in_births" "in_births" (defArgs s_in_births) (defBody s_in_births) (defScope s_in_births) .none kV15 dc15 pm15 an15 cd15 ct15), sl15⟩) (c15 : PySem.W.codeIn K cd15 "in_births" = true) (k15 : PySem.W.keepIn K (.ref f15) = true)
    (a16 : PySem.W.nsIn K mainGlobals "chain_of" = some (some (.ref f16))) (l16 : K.lookup f16 = some ⟨oc16, od16, .func (PySem.W.fnOf "chain_of" "chain_of" (defArgs s_chain_of) (defBody s_chain_of) (defScope s_chain_of) .none kV16 dc16 pm16 an16 cd16 ct16), sl16⟩) (c16 : PySem.W.codeIn K cd16 "chain_of" = true) (k16 : PySem.W.keepIn K (.ref f16) = true)
    (a17 : PySem.W.nsIn K mainGlobals "chain" = some (some (.ref f17))) (l17 : K.lookup f17 = some ⟨oc17, od17, .func (PySem.W.fnOf "chain" "chain" (defArgs s_chain) (defBody s_chain) (defScope s_chain) .none kV17 dc17 pm17 an17 cd17 ct17), sl17⟩) (c17 : PySem.W.codeIn K cd17 "chain" = true) (k17 : PySem.W.keepIn K (.ref f17) = true)
    (a18 : PySem.W.nsIn K mainGlobals "_law_draw" = some (some (.ref f18))) (l18 : K.lookup f18 = some ⟨oc18, od18, .func (PySem.W.fnOf "_law_draw" "_law_draw" (defArgs s_law_draw) (defBody s_law_draw) (defScope s_law_draw) .none kV18 dc18 pm18 an18 cd18 ct18), sl18⟩) (c18 : PySem.W.codeIn K cd18 "_law_draw" = true) (k18 : PySem.W.keepIn K (.ref f18) = true)
    (a19 : PySem.W.nsIn K mainGlobals "_law_pick" = some (some (.ref f19))) (l19 : K.lookup f19 = some ⟨oc19, od19, .func (PySem.W.fnOf "_law_pick" "_law_pick" (defArgs s_law_pick) (defBody s_law_pick) (defScope s_law_pick) .none kV19 dc19 pm19 an19 cd19 ct19), sl19⟩) (c19 : PySem.W.codeIn K cd19 "_law_pick" = true) (k19 : PySem.W.keepIn K (.ref f19) = true)
    (a20 : PySem.W.nsIn K mainGlobals "_law_which" = some (some (.ref f20))) (l20 : K.lookup f20 = some ⟨oc20, od20, .func (PySem.W.fnOf "_law_which" "_law_which" (defArgs s_law_which) (defBody s_law_which) (defScope s_law_which) .none kV20 dc20 pm20 an20 cd20 ct20), sl20⟩) (c20 : PySem.W.codeIn K cd20 "_law_which" = true) (k20 : PySem.W.keepIn K (.ref f20) = true)
    (a21 : PySem.W.nsIn K mainGlobals "_law_ask" = some (some (.ref f21))) (l21 : K.lookup f21 = some ⟨oc21, od21, .func (PySem.W.fnOf "_law_ask" "_law_ask" (defArgs s_law_ask) (defBody s_law_ask) (defScope s_law_ask) .none kV21 dc21 pm21 an21 cd21 ct21), sl21⟩) (c21 : PySem.W.codeIn K cd21 "_law_ask" = true) (k21 : PySem.W.keepIn K (.ref f21) = true)
    (a22 : PySem.W.nsIn K mainGlobals "law" = some (some (.ref f22))) (l22 : K.lookup f22 = some ⟨oc22, od22, .func (PySem.W.fnOf "law" "law" (defArgs s_law) (defBody s_law) (defScope s_law) .none kV22 dc22 pm22 an22 cd22 ct22), sl22⟩) (c22 : PySem.W.codeIn K cd22 "law" = true) (k22 : PySem.W.keepIn K (.ref f22) = true)
    (g0 : PySem.W.nsIn K mainGlobals "NoFamily" = some (some (.ref C0)))
    (g1 : PySem.W.nsIn K mainGlobals "NotPlain" = some (some (.ref C1)))
    (g2 : PySem.W.nsIn K mainGlobals "NoName" = some (some (.ref C2)))
    (g3 : PySem.W.nsIn K mainGlobals "NoSex" = some (some (.ref C3)))
    (g4 : PySem.W.nsIn K mainGlobals "NoRow" = some (some (.ref C4)))
    (g5 : PySem.W.nsIn K mainGlobals "NoSpeech" = some (some (.ref C5)))
    (g6 : PySem.W.nsIn K mainGlobals "NotSure" = some (some (.ref C6)))
    (g7 : PySem.W.nsIn K mainGlobals "NoWord" = some (some (.ref C7)))
    (g8 : PySem.W.nsIn K mainGlobals "TooMany" = some (some (.ref C8)))
    (g9 : PySem.W.nsIn K mainGlobals "NoParent" = some (some (.ref C9)))
    (g10 : PySem.W.nsIn K mainGlobals "Taken" = some (some (.ref C10)))
    (g11 : PySem.W.nsIn K mainGlobals "Full" = some (some (.ref C11)))
    (g12 : PySem.W.nsIn K mainGlobals "NoDeed" = some (some (.ref C12)))
    (g13 : PySem.W.nsIn K mainGlobals "NoText" = some (some (.ref C13)))
    (gK : PySem.W.nsIn K mainGlobals "KinError" = some (some (.ref aK)))
    (n_isinstance : PySem.W.nsIn K mainGlobals "isinstance" = some none)
    (n_str : PySem.W.nsIn K mainGlobals "str" = some none)
    (n_len : PySem.W.nsIn K mainGlobals "len" = some none)
    (n_all : PySem.W.nsIn K mainGlobals "all" = some none)
    (n_range : PySem.W.nsIn K mainGlobals "range" = some none)
    (n_zip : PySem.W.nsIn K mainGlobals "zip" = some none)
    (n_reversed : PySem.W.nsIn K mainGlobals "reversed" = some none)
    (n_list : PySem.W.nsIn K mainGlobals "list" = some none)
    (n_enumerate : PySem.W.nsIn K mainGlobals "enumerate" = some none)
    (n_sorted : PySem.W.nsIn K mainGlobals "sorted" = some none)
    (n_tuple : PySem.W.nsIn K mainGlobals "tuple" = some none)
    (n_ValueError : PySem.W.nsIn K mainGlobals "ValueError" = some none)
    (hS : PySem.W.nsIn K mainGlobals "STEPS" = some (some (.str "fmsd" tS))) (hU : PySem.W.nsIn K mainGlobals "UPWARD" = some (some (.str "fm" tU))) (hM : PySem.W.nsIn K mainGlobals "MOST_STEPS" = some (some (.int 60 tM))) (hL : PySem.W.nsIn K mainGlobals "LETTERS" = some (some (.str "abcdefghijklmnopqrstuvwxyz" tL)))
    (hX : PySem.W.nsIn K mainGlobals "SEXES" = some (some (.ref aS))) (lX : K.lookup aS = some ⟨.type "tuple", odS, .seq #[.str "he" tH1, .str "she" tH2] nS, slS⟩)
    (xs : PySem.W.excIn K C3 [.type "ValueError", .type "Exception", .type "BaseException", .type "object"] "ValueError.__new__" = true) (ps : PySem.W.keepIn K (.ref C3) = true) (bs : PySem.W.subIn K (.ref C3) (.type "BaseException") = some true) (ts : PySem.W.typeIn K (.ref C3) = some (.type "type"))
    (es1 : PySem.W.findIn K (.ref C3) "__getattribute__" = some (some (.builtin "BaseException.__getattribute__"))) (es2 : PySem.W.findIn K (.ref C3) "__getattr__" = some none) (es3 : PySem.W.hasDictIn K C3 = true) (es4 : PySem.W.findIn K (.ref C3) "__class__" = some (some (.builtin "object.__class__"))) (es5 : PySem.W.mroIn K C3 (.type "object") = some true)
    (ys0 : PySem.W.subIn K (.ref C3) (.ref C0) = some false)
    (ys1 : PySem.W.subIn K (.ref C3) (.ref C1) = some false)
    (ys2 : PySem.W.subIn K (.ref C3) (.ref C2) = some false)
    (ys3 : PySem.W.subIn K (.ref C3) (.ref C3) = some true)
    (ys4 : PySem.W.subIn K (.ref C3) (.ref C4) = some false)
    (ys5 : PySem.W.subIn K (.ref C3) (.ref C5) = some false)
    (ys6 : PySem.W.subIn K (.ref C3) (.ref C6) = some false)
    (ys7 : PySem.W.subIn K (.ref C3) (.ref C7) = some false)
    (ys8 : PySem.W.subIn K (.ref C3) (.ref C8) = some false)
    (ys9 : PySem.W.subIn K (.ref C3) (.ref C9) = some false)
    (ys10 : PySem.W.subIn K (.ref C3) (.ref C10) = some false)
    (ys11 : PySem.W.subIn K (.ref C3) (.ref C11) = some false)
    (ys12 : PySem.W.subIn K (.ref C3) (.ref C12) = some false)
    (ys13 : PySem.W.subIn K (.ref C3) (.ref C13) = some false)
    (ysv : PySem.W.subIn K (.ref C3) (.type "ValueError") = some true) (ysK : PySem.W.subIn K (.ref C3) (.ref aK) = some true)
    (xr : PySem.W.excIn K C4 [.type "ValueError", .type "Exception", .type "BaseException", .type "object"] "ValueError.__new__" = true) (pr : PySem.W.keepIn K (.ref C4) = true) (br : PySem.W.subIn K (.ref C4) (.type "BaseException") = some true) (tr : PySem.W.typeIn K (.ref C4) = some (.type "type"))
    (er1 : PySem.W.findIn K (.ref C4) "__getattribute__" = some (some (.builtin "BaseException.__getattribute__"))) (er2 : PySem.W.findIn K (.ref C4) "__getattr__" = some none) (er3 : PySem.W.hasDictIn K C4 = true) (er4 : PySem.W.findIn K (.ref C4) "__class__" = some (some (.builtin "object.__class__"))) (er5 : PySem.W.mroIn K C4 (.type "object") = some true)
    (yr0 : PySem.W.subIn K (.ref C4) (.ref C0) = some false)
    (yr1 : PySem.W.subIn K (.ref C4) (.ref C1) = some false)
    (yr2 : PySem.W.subIn K (.ref C4) (.ref C2) = some false)
    (yr3 : PySem.W.subIn K (.ref C4) (.ref C3) = some false)
    (yr4 : PySem.W.subIn K (.ref C4) (.ref C4) = some true)
    (yr5 : PySem.W.subIn K (.ref C4) (.ref C5) = some false)
    (yr6 : PySem.W.subIn K (.ref C4) (.ref C6) = some false)
    (yr7 : PySem.W.subIn K (.ref C4) (.ref C7) = some false)
    (yr8 : PySem.W.subIn K (.ref C4) (.ref C8) = some false)
    (yr9 : PySem.W.subIn K (.ref C4) (.ref C9) = some false)
    (yr10 : PySem.W.subIn K (.ref C4) (.ref C10) = some false)
    (yr11 : PySem.W.subIn K (.ref C4) (.ref C11) = some false)
    (yr12 : PySem.W.subIn K (.ref C4) (.ref C12) = some false)
    (yr13 : PySem.W.subIn K (.ref C4) (.ref C13) = some false)
    (yrv : PySem.W.subIn K (.ref C4) (.type "ValueError") = some true) (yrK : PySem.W.subIn K (.ref C4) (.ref aK) = some true)
    (iC0 : PySem.W.isClsIn K C0 = true) (tC0 : PySem.W.typeIn K (.ref C0) = some (.type "type"))
    (iC1 : PySem.W.isClsIn K C1 = true) (tC1 : PySem.W.typeIn K (.ref C1) = some (.type "type"))
    (iC2 : PySem.W.isClsIn K C2 = true) (tC2 : PySem.W.typeIn K (.ref C2) = some (.type "type"))
    (iC3 : PySem.W.isClsIn K C3 = true) (tC3 : PySem.W.typeIn K (.ref C3) = some (.type "type"))
    (iC4 : PySem.W.isClsIn K C4 = true) (tC4 : PySem.W.typeIn K (.ref C4) = some (.type "type"))
    (iC5 : PySem.W.isClsIn K C5 = true) (tC5 : PySem.W.typeIn K (.ref C5) = some (.type "type"))
    (iC6 : PySem.W.isClsIn K C6 = true) (tC6 : PySem.W.typeIn K (.ref C6) = some (.type "type"))
    (iC7 : PySem.W.isClsIn K C7 = true) (tC7 : PySem.W.typeIn K (.ref C7) = some (.type "type"))
    (iC8 : PySem.W.isClsIn K C8 = true) (tC8 : PySem.W.typeIn K (.ref C8) = some (.type "type"))
    (iC9 : PySem.W.isClsIn K C9 = true) (tC9 : PySem.W.typeIn K (.ref C9) = some (.type "type"))
    (iC10 : PySem.W.isClsIn K C10 = true) (tC10 : PySem.W.typeIn K (.ref C10) = some (.type "type"))
    (iC11 : PySem.W.isClsIn K C11 = true) (tC11 : PySem.W.typeIn K (.ref C11) = some (.type "type"))
    (iC12 : PySem.W.isClsIn K C12 = true) (tC12 : PySem.W.typeIn K (.ref C12) = some (.type "type"))
    (iC13 : PySem.W.isClsIn K C13 = true) (tC13 : PySem.W.typeIn K (.ref C13) = some (.type "type"))
    (iK : PySem.W.isClsIn K aK = true) (tK : PySem.W.typeIn K (.ref aK) = some (.type "type")) (bK : PySem.W.subIn K (.ref aK) (.type "BaseException") = some true)
    (o1 : PySem.W.specialIn K (.builtin "object.__class__") "__get__" = some (some (.builtin "getset_descriptor.__get__"))) (o2 : PySem.W.takesIn K (.builtin "object.__class__") = some true)
    : ∃ fd : FuncData, (∀ (s : Shared) (v : Value), BindsTo s fd ⟨[v], []⟩ [("_law_script", v)]) ∧ ∀ base : Heap, K.In base → base.Ns mainGlobals mg → FnOk l.prog w K mg base CX0 7 fa fd ["_law_script"] (spLaw K) := by
  have e := hfa.symm.trans (PySem.W.mg_of X G a22)
  cases e
  have D1 := df_mk (st := s_is_sex) (ps := ["thing"]) X G a1 l1 c1 k1 fun _ _ _ _ _ _ us hl => match us, hl with | [_], _ => rfl
  have D2 := df_mk (st := s_is_row) (ps := ["thing"]) X G a2 l2 c2 k2 fun _ _ _ _ _ _ us hl => match us, hl with | [_], _ => rfl
  have D3 := df_mk (st := s_need_sex) (ps := ["thing"]) X G a3 l3 c3 k3 fun _ _ _ _ _ _ us hl => match us, hl with | [_], _ => rfl
  have D4 := df_mk (st := s_need_row) (ps := ["thing"]) X G a4 l4 c4 k4 fun _ _ _ _ _ _ us hl => match us, hl with | [_], _ => rfl
  have D5 := df_mk (st := s_sex_behind) (ps := ["step"]) X G a5 l5 c5 k5 fun _ _ _ _ _ _ us hl => match us, hl with | [_], _ => rfl
  have D6 := df_mk (st := s_sexes_along) (ps := ["sex", "row"]) X G a6 l6 c6 k6 fun _ _ _ _ _ _ us hl => match us, hl with | [_, _], _ => rfl
  have D7 := df_mk (st := s_back_step) (ps := ["sex", "step"]) X G a7 l7 c7 k7 fun _ _ _ _ _ _ us hl => match us, hl with | [_, _], _ => rfl
  have D8 := df_mk (st := s_goes_straight) (ps := ["sex", "row"]) X G a8 l8 c8 k8 fun _ _ _ _ _ _ us hl => match us, hl with | [_, _], _ => rfl
  have D9 := df_mk (st := s_is_straight) (ps := ["sex", "row"]) X G a9 l9 c9 k9 fun _ _ _ _ _ _ us hl => match us, hl with | [_, _], _ => rfl
  have D10 := df_mk (st := s_turned_row) (ps := ["sex", "row"]) X G a10 l10 c10 k10 fun _ _ _ _ _ _ us hl => match us, hl with | [_, _], _ => rfl
  have D11 := df_mk (st := s_turned) (ps := ["sex", "row"]) X G a11 l11 c11 k11 fun _ _ _ _ _ _ us hl => match us, hl with | [_, _], _ => rfl
  have D12 := df_mk (st := s_name_of) (ps := ["number"]) X G a12 l12 c12 k12 fun _ _ _ _ _ _ us hl => match us, hl with | [_], _ => rfl
  have D13 := df_mk (st := s_chain_persons) (ps := ["sex", "row"]) X G a13 l13 c13 k13 fun _ _ _ _ _ _ us hl => match us, hl with | [_, _], _ => rfl
  have D14 := df_mk (st := s_depths_along) (ps := ["row"]) X G a14 l14 c14 k14 fun _ _ _ _ _ _ us hl => match us, hl with | [_], _ => rfl
  have D15 := df_mk (st := s_in_births) (ps := ["persons", "depths"]) X G a15 l15 c15 k15 fun _ _ _ _ _ _ us hl => match us, hl with | [_, _], _ => rfl
  have D16 := df_mk (st := s_chain_of) (ps := ["sex", "row"]) X G a16 l16 c16 k16 fun _ _ _ _ _ _ us hl => match us, hl with | [_, _], _ => rfl
  have D17 := df_mk (st := s_chain) (ps := ["sex", "row"]) X G a17 l17 c17 k17 fun _ _ _ _ _ _ us hl => match us, hl with | [_, _], _ => rfl
  have D18 := df_mk (st := s_law_draw) (ps := ["_law_script", "_law_town", "_law_many"]) X G a18 l18 c18 k18 fun _ _ _ _ _ _ us hl => match us, hl with | [_, _, _], _ => rfl
  have D19 := df_mk (st := s_law_pick) (ps := ["_law_script", "_law_town", "_law_some"]) X G a19 l19 c19 k19 fun _ _ _ _ _ _ us hl => match us, hl with | [_, _, _], _ => rfl
  have D20 := df_mk (st := s_law_which) (ps := ["_law_e"]) X G a20 l20 c20 k20 fun _ _ _ _ _ _ us hl => match us, hl with | [_], _ => rfl
  have D21 := df_mk (st := s_law_ask) (ps := ["_law_what", "_law_sex", "_law_row"]) X G a21 l21 c21 k21 fun _ _ _ _ _ _ us hl => match us, hl with | [_, _, _], _ => rfl
  have M0 := PySem.W.mg_of X G g0
  have M1 := PySem.W.mg_of X G g1
  have M2 := PySem.W.mg_of X G g2
  have M3 := PySem.W.mg_of X G g3
  have M4 := PySem.W.mg_of X G g4
  have M5 := PySem.W.mg_of X G g5
  have M6 := PySem.W.mg_of X G g6
  have M7 := PySem.W.mg_of X G g7
  have M8 := PySem.W.mg_of X G g8
  have M9 := PySem.W.mg_of X G g9
  have M10 := PySem.W.mg_of X G g10
  have M11 := PySem.W.mg_of X G g11
  have M12 := PySem.W.mg_of X G g12
  have M13 := PySem.W.mg_of X G g13
  have MK := PySem.W.mg_of X G gK
  have N_isinstance := PySem.W.mg_none_of X G n_isinstance
  have N_str := PySem.W.mg_none_of X G n_str
  have N_len := PySem.W.mg_none_of X G n_len
  have N_all := PySem.W.mg_none_of X G n_all
  have N_range := PySem.W.mg_none_of X G n_range
  have N_zip := PySem.W.mg_none_of X G n_zip
  have N_reversed := PySem.W.mg_none_of X G n_reversed
  have N_list := PySem.W.mg_none_of X G n_list
  have N_enumerate := PySem.W.mg_none_of X G n_enumerate
  have N_sorted := PySem.W.mg_none_of X G n_sorted
  have N_tuple := PySem.W.mg_none_of X G n_tuple
  have N_ValueError := PySem.W.mg_none_of X G n_ValueError
  have ES : ExT K mg "NoSex" C3 := ⟨M3, xs, ps, bs, ts⟩
  have ER : ExT K mg "NoRow" C4 := ⟨M4, xr, pr, br, tr⟩
  have QS : ∀ H, SqT K H aS [.str "he", .str "she"] := fun H => .inr ⟨_, _, _, lX, rfl, rfl, (by show 2 ≤ sizeLine; decide), .cons ⟨_, rfl⟩ (.cons ⟨_, rfl⟩ .nil)⟩
  have T1 : ∃ T : Txt K mg, T.aNoSex = C3 ∧ T.aNoRow = C4 := ⟨⟨N_isinstance, N_str, N_len, N_all, N_range, aS, PySem.W.mg_of X G hX, fun H => .inr ⟨_, _, _, lX, rfl, rfl, (by show 2 ≤ sizeLine; decide), .cons ⟨_, rfl⟩ (.cons ⟨_, rfl⟩ .nil)⟩, _, PySem.W.mg_of X G hS, _, PySem.W.mg_of X G hU, _, PySem.W.mg_of X G hM, C3, ES, C4, ER⟩, rfl, rfl⟩
  obtain ⟨T1, rfl, rfl⟩ := T1
  let T2 : Txt2 K mg := ⟨T1, f1, _, D1, f2, _, D2, f3, _, D3, f4, _, D4, f5, _, D5, f6, _, D6, f7, _, D7, f8, _, D8, f9, _, D9⟩
  let TT : TxtT K mg := ⟨T2, N_zip, N_reversed, f10, _, D10, f11, _, D11⟩
  let TN : TxtN K mg := ⟨TT, _, PySem.W.mg_of X G hL, f12, _, D12, f14, _, D14⟩
  let TP : TxtP K mg := ⟨TN, N_list, N_enumerate, f13, _, D13⟩
  let TC : TxtC K mg := ⟨TP, N_sorted, N_tuple, f15, _, D15, f16, _, D16, f17, _, D17⟩
  let T3 : Txt3 K mg := ⟨T2, f18, _, D18, f19, _, D19⟩
  let TL : LawT K mg := ⟨T3, f21, _, D21⟩
  let CC : Cls K mg := ⟨C0, C1, C2, T1.aNoSex, T1.aNoRow, C5, C6, C7, C8, C9, C10, C11, C12, C13, M0, M1, M2, M3, M4, M5, M6, M7, M8, M9, M10, M11, M12, M13, N_ValueError⟩
  have JS : IsJ K mg CC T1.aNoSex 3 := ⟨⟨es1, es2, bs, es3, es4, o1, o2, es5⟩, by decide, kit_no iC0 tC0 ys3 ys0, kit_no iC1 tC1 ys3 ys1, kit_no iC2 tC2 ys3 ys2, kit_self, kit_no iC4 tC4 ys3 ys4, kit_no iC5 tC5 ys3 ys5, kit_no iC6 tC6 ys3 ys6, kit_no iC7 tC7 ys3 ys7, kit_no iC8 tC8 ys3 ys8, kit_no iC9 tC9 ys3 ys9, kit_no iC10 tC10 ys3 ys10, kit_no iC11 tC11 ys3 ys11, kit_no iC12 tC12 ys3 ys12, kit_no iC13 tC13 ys3 ys13, kit_type (by decide +kernel) ysv⟩
  have ms := exm_mk bK iK tK ysK
  have JR : IsJ K mg CC T1.aNoRow 4 := ⟨⟨er1, er2, br, er3, er4, o1, o2, er5⟩, by decide, kit_no iC0 tC0 yr4 yr0, kit_no iC1 tC1 yr4 yr1, kit_no iC2 tC2 yr4 yr2, kit_no iC3 tC3 yr4 yr3, kit_self, kit_no iC5 tC5 yr4 yr5, kit_no iC6 tC6 yr4 yr6, kit_no iC7 tC7 yr4 yr7, kit_no iC8 tC8 yr4 yr8, kit_no iC9 tC9 yr4 yr9, kit_no iC10 tC10 yr4 yr10, kit_no iC11 tC11 yr4 yr11, kit_no iC12 tC12 yr4 yr12, kit_no iC13 tC13 yr4 yr13, kit_type (by decide +kernel) yrv⟩
  have mr := exm_mk bK iK tK yrK
  have F := fun_mk (st := s_law) l22 c22 k22
  refine ⟨_, fun s v => .of_eq rfl, fun base _ _ => ok_law TL (ok_ask (CS := T1.aNoSex) (CR := T1.aNoRow) ⟨f9, f17, f11, D9.g, D17.g, D11.g, ⟨_, _, (ok_is_straight' T2).mono (by decide), D9.F.kp, D9.b⟩, ⟨_, _, ok_chain TC, D17.F.kp, D17.b⟩, ⟨_, _, (ok_turned TT).mono (by decide), D11.F.kp, D11.b⟩⟩ CC JS JR N_isinstance MK ms mr D20 D21) F⟩
theorem walk {l : PySem.W.OpenLaw} {q : Program} {loose : List Str} {XP : (Str → Option Value) → Heap → Prop} {YP : World → Heap → Prop} {d : DefRec} {K : Params → PySem.W.Frag} (hn : l.most = some 63) (hdf : d.params.defaults = [])
    (hY : ∀ (w : World) (h : Heap), YP w h → (K w.params).In h)
    (F : ∀ (w : World) (mg : Str → Option Value) (fa : Addr) (h : Heap), (K w.params).In h → h.Ns mainGlobals mg → mg d.name = some (.ref fa) →
      ∃ fd : FuncData, (∀ (s : Shared) (u : Value), BindsTo s fd ⟨[u], []⟩ [("_law_script", u)]) ∧ ∀ base : Heap, (K w.params).In base → base.Ns mainGlobals mg → FnOk l.prog w (K w.params) mg base CX0 7 fa fd ["_law_script"] (spLaw (K w.params))) :
    PySem.W.WalkO q loose XP YP l.row.toRowW d [] (fun f vs => PySem.call f vs) :=
  L2.walk_of (n := 63) (k := 7) (x := "_law_script") (CX := fun _ => CX0) (sp := fun w => spLaw (K w.params)) hn (by decide) hdf ⟨rfl, by decide, by decide⟩ hY F (fun _ _ a ns hl _ hS => ⟨a, ns, rfl, hS, hl, fun _ => rfl⟩) fun _ _ _ _ _ z => z
end K05

set_option maxHeartbeats 4000000
open PySem PySem.W PyProof.Rows
set_option maxRecDepth 100000 in
set_option maxHeartbeats 0 in
theorem PySem.Challenge.cw_kincalls_k05_steps_refused_holds : PySem.Challenge.rw_kincalls_k05_steps_refused.Holds := by
  w_on; o_law; k_head; (case hw => w_witness2)
  k_fill
  refine K05.walk (l := PySem.Challenge.rw_kincalls_k05_steps_refused) rfl rfl (fun w h Y => PySem.W.kIn_of Y) ?F
  case F =>
    intro w mg fa h KX G hmg
    refine' K05.all_mk KX G hmg ?kinfact_a1 ?kinfact_l1 ?kinfact_c1 ?kinfact_k1 ?kinfact_a2 ?kinfact_l2 ?kinfact_c2 ?kinfact_k2 ?kinfact_a3 ?kinfact_l3 ?kinfact_c3 ?kinfact_k3 ?kinfact_a4 ?kinfact_l4 ?kinfact_c4 ?kinfact_k4 ?kinfact_a5 ?kinfact_l5 ?kinfact_c5 ?kinfact_k5 ?kinfact_a6 ?kinfact_l6 ?kinfact_c6 ?kinfact_k6 ?kinfact_a7 ?kinfact_l7 ?kinfact_c7 ?kinfact_k7 ?kinfact_a8 ?kinfact_l8 ?kinfact_c8 ?kinfact_k8 ?kinfact_a9 ?kinfact_l9 ?kinfact_c9 ?kinfact_k9 ?kinfact_a10 ?kinfact_l10 ?kinfact_c10 ?kinfact_k10 ?kinfact_a11 ?kinfact_l11 ?kinfact_c11 ?kinfact_k11 ?kinfact_a12 ?kinfact_l12 ?kinfact_c12 ?kinfact_k12 ?kinfact_a13 ?kinfact_l13 ?kinfact_c13 ?kinfact_k13 ?kinfact_a14 ?kinfact_l14 ?kinfact_c14 ?kinfact_k14 ?kinfact_a15 ?kinfact_l15 ?kinfact_c15 ?kinfact_k15 ?kinfact_a16 ?kinfact_l16 ?kinfact_c16 ?kinfact_k16 ?kinfact_a17 ?kinfact_l17 ?kinfact_c17 ?kinfact_k17 ?kinfact_a18 ?kinfact_l18 ?kinfact_c18 ?kinfact_k18 ?kinfact_a19 ?kinfact_l19 ?kinfact_c19 ?kinfact_k19 ?kinfact_a20 ?kinfact_l20 ?kinfact_c20 ?kinfact_k20 ?kinfact_a21 ?kinfact_l21 ?kinfact_c21 ?kinfact_k21 ?kinfact_a22 ?kinfact_l22 ?kinfact_c22 ?kinfact_k22 ?kinfact_g0 ?kinfact_g1 ?kinfact_g2 ?kinfact_g3 ?kinfact_g4 ?kinfact_g5 ?kinfact_g6 ?kinfact_g7 ?kinfact_g8 ?kinfact_g9 ?kinfact_g10 ?kinfact_g11 ?kinfact_g12 ?kinfact_g13 ?kinfact_gK ?kinfact_n_isinstance ?kinfact_n_str ?kinfact_n_len ?kinfact_n_all ?kinfact_n_range ?kinfact_n_zip ?kinfact_n_reversed ?kinfact_n_list ?kinfact_n_enumerate ?kinfact_n_sorted ?kinfact_n_tuple ?kinfact_n_ValueError ?kinfact_hS ?kinfact_hU ?kinfact_hM ?kinfact_hL ?kinfact_hX ?kinfact_lX ?kinfact_xs ?kinfact_ps ?kinfact_bs ?kinfact_ts ?kinfact_es1 ?kinfact_es2 ?kinfact_es3 ?kinfact_es4 ?kinfact_es5 ?kinfact_ys0 ?kinfact_ys1 ?kinfact_ys2 ?kinfact_ys3 ?kinfact_ys4 ?kinfact_ys5 ?kinfact_ys6 ?kinfact_ys7 ?kinfact_ys8 ?kinfact_ys9 ?kinfact_ys10 ?kinfact_ys11 ?kinfact_ys12 ?kinfact_ys13 ?kinfact_ysv ?kinfact_ysK ?kinfact_xr ?kinfact_pr ?kinfact_br ?kinfact_tr ?kinfact_er1 ?kinfact_er2 ?kinfact_er3 ?kinfact_er4 ?kinfact_er5 ?kinfact_yr0 ?kinfact_yr1 ?kinfact_yr2 ?kinfact_yr3 ?kinfact_yr4 ?kinfact_yr5 ?kinfact_yr6 ?kinfact_yr7 ?kinfact_yr8 ?kinfact_yr9 ?kinfact_yr10 ?kinfact_yr11 ?kinfact_yr12 ?kinfact_yr13 ?kinfact_yrv ?kinfact_yrK ?kinfact_iC0 ?kinfact_tC0 ?kinfact_iC1 ?kinfact_tC1 ?kinfact_iC2 ?kinfact_tC2 ?kinfact_iC3 ?kinfact_tC3 ?kinfact_iC4 ?kinfact_tC4 ?kinfact_iC5 ?kinfact_tC5 ?kinfact_iC6 ?kinfact_tC6 ?kinfact_iC7 ?kinfact_tC7 ?kinfact_iC8 ?kinfact_tC8 ?kinfact_iC9 ?kinfact_tC9 ?kinfact_iC10 ?kinfact_tC10 ?kinfact_iC11 ?kinfact_tC11 ?kinfact_iC12 ?kinfact_tC12 ?kinfact_iC13 ?kinfact_tC13 ?kinfact_iK ?kinfact_tK ?kinfact_bK ?kinfact_o1 ?kinfact_o2
    (case kinfact_a1 => k_is); (case kinfact_l1 => k_is); (case kinfact_c1 => k_is); (case kinfact_k1 => k_is)
    (case kinfact_a2 => k_is); (case kinfact_l2 => k_is); (case kinfact_c2 => k_is); (case kinfact_k2 => k_is)
    (case kinfact_a3 => k_is); (case kinfact_l3 => k_is); (case kinfact_c3 => k_is); (case kinfact_k3 => k_is)
    (case kinfact_a4 => k_is); (case kinfact_l4 => k_is); (case kinfact_c4 => k_is); (case kinfact_k4 => k_is)
    (case kinfact_a5 => k_is); (case kinfact_l5 => k_is); (case kinfact_c5 => k_is); (case kinfact_k5 => k_is)
    (case kinfact_a6 => k_is); (case kinfact_l6 => k_is); (case kinfact_c6 => k_is); (case kinfact_k6 => k_is)
    (case kinfact_a7 => k_is); (case kinfact_l7 => k_is); (case kinfact_c7 => k_is); (case kinfact_k7 => k_is)
    (case kinfact_a8 => k_is); (case kinfact_l8 => k_is); (case kinfact_c8 => k_is); (case kinfact_k8 => k_is)
    (case kinfact_a9 => k_is); (case kinfact_l9 => k_is); (case kinfact_c9 => k_is); (case kinfact_k9 => k_is)
    (case kinfact_a10 => k_is); (case kinfact_l10 => k_is); (case kinfact_c10 => k_is); (case kinfact_k10 => k_is)
    (case kinfact_a11 => k_is); (case kinfact_l11 => k_is); (case kinfact_c11 => k_is); (case kinfact_k11 => k_is)
    (case kinfact_a12 => k_is); (case kinfact_l12 => k_is); (case kinfact_c12 => k_is); (case kinfact_k12 => k_is)
    (case kinfact_a13 => k_is); (case kinfact_l13 => k_is); (case kinfact_c13 => k_is); (case kinfact_k13 => k_is)
    (case kinfact_a14 => k_is); (case kinfact_l14 => k_is); (case kinfact_c14 => k_is); (case kinfact_k14 => k_is)
    (case kinfact_a15 => k_is); (case kinfact_l15 => k_is); (case kinfact_c15 => k_is); (case kinfact_k15 => k_is)
    (case kinfact_a16 => k_is); (case kinfact_l16 => k_is); (case kinfact_c16 => k_is); (case kinfact_k16 => k_is)
    (case kinfact_a17 => k_is); (case kinfact_l17 => k_is); (case kinfact_c17 => k_is); (case kinfact_k17 => k_is)
    (case kinfact_a18 => k_is); (case kinfact_l18 => k_is); (case kinfact_c18 => k_is); (case kinfact_k18 => k_is)
    (case kinfact_a19 => k_is); (case kinfact_l19 => k_is); (case kinfact_c19 => k_is); (case kinfact_k19 => k_is)
    (case kinfact_a20 => k_is); (case kinfact_l20 => k_is); (case kinfact_c20 => k_is); (case kinfact_k20 => k_is)
    (case kinfact_a21 => k_is); (case kinfact_l21 => k_is); (case kinfact_c21 => k_is); (case kinfact_k21 => k_is)
    (case kinfact_a22 => k_is); (case kinfact_l22 => k_is); (case kinfact_c22 => k_is); (case kinfact_k22 => k_is)
    (case kinfact_g0 => k_is); (case kinfact_g1 => k_is); (case kinfact_g2 => k_is); (case kinfact_g3 => k_is)
    (case kinfact_g4 => k_is); (case kinfact_g5 => k_is); (case kinfact_g6 => k_is); (case kinfact_g7 => k_is)
    (case kinfact_g8 => k_is); (case kinfact_g9 => k_is); (case kinfact_g10 => k_is); (case kinfact_g11 => k_is)
    (case kinfact_g12 => k_is); (case kinfact_g13 => k_is); (case kinfact_gK => k_is); (case kinfact_n_isinstance => k_is)
    (case kinfact_n_str => k_is); (case kinfact_n_len => k_is); (case kinfact_n_all => k_is); (case kinfact_n_range => k_is)
    (case kinfact_n_zip => k_is); (case kinfact_n_reversed => k_is); (case kinfact_n_list => k_is); (case kinfact_n_enumerate => k_is)
    (case kinfact_n_sorted => k_is); (case kinfact_n_tuple => k_is); (case kinfact_n_ValueError => k_is); (case kinfact_hS => k_is)
    (case kinfact_hU => k_is); (case kinfact_hM => k_is); (case kinfact_hL => k_is); (case kinfact_hX => k_is)
    (case kinfact_lX => k_is); (case kinfact_xs => k_exc); (case kinfact_ps => k_is); (case kinfact_bs => k_is)
    (case kinfact_ts => k_is); (case kinfact_es1 => k_is); (case kinfact_es2 => k_is); (case kinfact_es3 => k_is)
    (case kinfact_es4 => k_is); (case kinfact_es5 => k_is); (case kinfact_ys0 => k_is); (case kinfact_ys1 => k_is)
    (case kinfact_ys2 => k_is); (case kinfact_ys3 => first | k_is | rfl); (case kinfact_ys4 => k_is); (case kinfact_ys5 => k_is)
    (case kinfact_ys6 => k_is); (case kinfact_ys7 => k_is); (case kinfact_ys8 => k_is); (case kinfact_ys9 => k_is)
    (case kinfact_ys10 => k_is); (case kinfact_ys11 => k_is); (case kinfact_ys12 => k_is); (case kinfact_ys13 => k_is)
    (case kinfact_ysv => k_is); (case kinfact_ysK => k_is); (case kinfact_xr => k_exc); (case kinfact_pr => k_is)
    (case kinfact_br => k_is); (case kinfact_tr => k_is); (case kinfact_er1 => k_is); (case kinfact_er2 => k_is)
    (case kinfact_er3 => k_is); (case kinfact_er4 => k_is); (case kinfact_er5 => k_is); (case kinfact_yr0 => k_is)
    (case kinfact_yr1 => k_is); (case kinfact_yr2 => k_is); (case kinfact_yr3 => k_is); (case kinfact_yr4 => first | k_is | rfl)
    (case kinfact_yr5 => k_is); (case kinfact_yr6 => k_is); (case kinfact_yr7 => k_is); (case kinfact_yr8 => k_is)
    (case kinfact_yr9 => k_is); (case kinfact_yr10 => k_is); (case kinfact_yr11 => k_is); (case kinfact_yr12 => k_is)
    (case kinfact_yr13 => k_is); (case kinfact_yrv => k_is); (case kinfact_yrK => k_is); (case kinfact_iC0 => k_is)
    (case kinfact_tC0 => k_is); (case kinfact_iC1 => k_is); (case kinfact_tC1 => k_is); (case kinfact_iC2 => k_is)
    (case kinfact_tC2 => k_is); (case kinfact_iC3 => k_is); (case kinfact_tC3 => k_is); (case kinfact_iC4 => k_is)
    (case kinfact_tC4 => k_is); (case kinfact_iC5 => k_is); (case kinfact_tC5 => k_is); (case kinfact_iC6 => k_is)
    (case kinfact_tC6 => k_is); (case kinfact_iC7 => k_is); (case kinfact_tC7 => k_is); (case kinfact_iC8 => k_is)
    (case kinfact_tC8 => k_is); (case kinfact_iC9 => k_is); (case kinfact_tC9 => k_is); (case kinfact_iC10 => k_is)
    (case kinfact_tC10 => k_is); (case kinfact_iC11 => k_is); (case kinfact_tC11 => k_is); (case kinfact_iC12 => k_is)
    (case kinfact_tC12 => k_is); (case kinfact_iC13 => k_is); (case kinfact_tC13 => k_is); (case kinfact_iK => k_is)
    (case kinfact_tK => k_is); (case kinfact_bK => k_is); (case kinfact_o1 => k_is); (case kinfact_o2 => k_is)


