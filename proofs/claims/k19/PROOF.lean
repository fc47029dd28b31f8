import PyProof.Rows.All
import Wide.All
import OpenK.AllK
import Wide.FinOn
import HandS.ForMost
import HandS.ForExc
import HandS.IsInst
import HandS.ExcIs
import HandS.HotCalls
import HandS.Walk
import HandS.Rev
import HandS.Zip
import HandS.SortRule
import HandS.Wide
import HandS.Conv
import HandS.Flow
import HandS.Style
import KE.GoesZip
import KE.GoesEnum
import KE.GoesMore
import KE.KRevIter
import HandS.RevTup
import HandS.MapObj
import HandS.MapJoin
import KE.KDictZip
import PyProof.ListNew
import PyProof.CollectIter
import HandS.ExcValue
import PySem.Challenge.RW_kincalls_k19_whole_texts_refused
import HandS.TupMul
import HandS.DictComp
import HandS.Star
import PyProof.Rows.StrSplitJoin
import PyProof.Rows.StrSplitAre
set_option Elab.async false
set_option linter.all false
set_option maxRecDepth 100000
set_option maxHeartbeats 2000000
namespace Kin
open PySem PySem.Spec PyProof.Rows L2

/-! ### a list's item read for an operator's store -/
section
variable {X : Cx}
def rGetL (K : PySem.W.Frag) : V → V → Hp → VK → Prop := fun x y H Q => ∃ p xs i v, x = .ref p ∧ y = .int i ∧ SqL K H p xs ∧ 0 ≤ i ∧ xs[i.toNat]? = some v ∧ Q v H
theorem get_list : PGet X (rGetL X.K) := by
  intro pins s σ H o i ov iv Q I ro ri h
  obtain ⟨p, xs, j, z, rfl, rfl, hq, h0, he, q⟩ := h
  cases ro
  obtain ⟨t, rfl⟩ := ri
  obtain ⟨its, r, pl, hz⟩ := I.list hq
  obtain ⟨w, ew, rw'⟩ := r.get he
  have hl := r.length
  have hn := line63
  have hj : j.toNat < xs.length := by
    obtain ⟨h1, _⟩ := List.getElem?_eq_some_iff.mp he
    exact h1
  exact wpAny_getItem_list (x := w) pl.isList h0 (by omega) (by simpa using ew) ⟨z, H, I, rw', q⟩

/-! ### list.count of flat items -/
def rCntF (K : PySem.W.Frag) : V → List V → Hp → VK → Prop := fun x xs H Q => ∃ (p : Addr) (ys : List V) (y : V), x = .ref p ∧ xs = [y] ∧ SqL K H p ys ∧ flatV y = true ∧ ys.all flatV = true ∧ Q (.int (ys.countP fun z => eqV z y : Nat)) H
theorem countP_eqU {x : V} : ∀ {xs : List V} {us : List Value}, Vals xs us → xs.all flatV = true → us.countP (eqU x) = xs.countP fun y => eqV y x
  | _, _, .nil, _ => rfl
  | y :: xs, u :: us, .cons r t, f => by
    rw [List.all_cons, Bool.and_eq_true] at f
    rw [List.countP_cons, List.countP_cons, eqU_of r f.1, countP_eqU t f.2]
theorem mt_countF : MtR X "list.count" (rCntF X.K) := by
  intro pins s σ H x xs v us Q I rx rxs h
  obtain ⟨p, ys, y, rfl, rfl, hs, fy, fys, q⟩ := h
  cases rx
  obtain ⟨u, rfl, ru⟩ := rxs.one
  obtain ⟨its, rv, ⟨⟨cls, dd, data, sl⟩, n, ho, hc, hdn, hd⟩, hlen⟩ := I.list hs
  simp only at hc hd
  subst hc hd
  refine call_meets PySem.F.slot_list_count ⟨_, ho, rfl⟩ PySem.F.entry_list_count (PySem.F.args_list_count_2 _ _)
    (SeqAt.list_countAt p its.toArray n dd sl u (eqU y)) ⟨ho, fun z hz => mem_eqAt ru fy rv fys z (by simpa using hz), ?_⟩
  have ec : its.toArray.toList.countP (eqU y) = ys.countP fun z => eqV z y := countP_eqU rv fys
  refine ⟨.int (ys.countP (fun z => eqV z y) : Nat), H, I.tok _, ⟨s.toks, ?_⟩, q⟩
  show Value.int ((its.toArray.toList.countP (eqU y) : Nat) : Int) s.toks = Value.int ((ys.countP (fun z => eqV z y) : Nat) : Int) s.toks
  rw [ec]
end

/-! ### a call whose callee is an expression: one of several defs -/
/-- the promise goes with the address -/
structure HeldX (P : Program) (w : World) (K : PySem.W.Frag) (mg : Str → Option Value) (base : Heap) (CX : CXT) (k : Nat) (f : Addr) (sp : Sp) : Prop where
  ex : ∃ (fd : FuncData) (ps : List Str), FnOk P w K mg base CX k f fd ps sp ∧ PySem.W.keepIn K (.ref f) = true ∧ Binds K fd ps []
def tCallX (te : TE) (S : Addr → Sp → Prop) (E : L2.St → XK) (t : TA) : TE := fun σ H Q => te σ H fun x H1 => ∃ f sp, x = .ref f ∧ S f sp ∧ t σ H1 fun vs H2 => sp vs H2 Q (E σ)
theorem arm_call_sub (a b : Expr) (p : Pos) (args : List Expr) (keywords : List Keyword) (pos : Pos) (env : Env) : eval (.Call (.Subscript a b p) args keywords pos) env = (do
    callWith pos (← eval (.Subscript a b p) env) [] (backTo pos (starEach args env)) (backToKw pos (keywordEach keywords env))) := rfl
theorem pe_callX {X : Cx} {CX : CXT} {k : Nat} {S : Addr → Sp → Prop} {E : L2.St → XK} {a b e : Expr} {es : List Expr} {te : TE} {t : TA} {p pos : Pos} (hS : ∀ f sp, S f sp → HeldX X.prog X.w X.K X.mg X.base CX k f sp) (hr : Room k X.A)
    (hx : ∀ σ, PassesAt CX X σ (E σ)) (hf : PE X (.Subscript a b p) te) (ha : PA X (e :: es) t) (he : starEach (e :: es) X.env = (false, eval e X.env) :: starEach es X.env := by rfl)
    (hpl : (backTo pos (starEach es X.env)).any (·.1) = false := by rfl) : PE X (.Call (.Subscript a b p) (e :: es) [] pos) (tCallX te S E t) := by
  refine ⟨fun pins s σ H Q I h => ?_⟩
  rw [arm_call_sub]
  refine wpAny_bind (thn (hf.run pins s σ H _ I h) fun u s1 ⟨v, H1, I1, r1, q1⟩ => ?_)
  obtain ⟨f, sp, rfl, hs, ht⟩ := q1
  cases r1
  obtain ⟨fd, ps, F, hk, hb⟩ := (hS f sp hs).ex
  refine PySem.W.callWith_K (h₀ := X.base) I.ok.mod.kin hk (thn (ha.run pos pins s1 σ H1 _ I1 ht) fun us s2 ⟨vs, H2, I2, r, q⟩ => ⟨I2.kIn, ?_⟩) he hpl
  exact run_fnS F hr hb (hx σ) I2 r q

/-! ### defs called with the exception that the suite holds -/
/-- an exception of the class c, not more told of it -/
def Held (c : Value) (o : Obj) : Prop := Zc c none o ∧ ∃ vs, o.data = .fields vs
structure FnP (P : Program) (w : World) (K : PySem.W.Frag) (mg : Str → Option Value) (base : Heap) (k : Nat) (f : Addr) (fd : FuncData) (ps : List Str) (sp : Addr → Value → Sp) : Prop where
  len : ∀ a c vs H Q E, sp a c vs H Q E → vs.length = ps.length
  run : ∀ (A : Around) (outer : List Env) (s : Shared) (H : Hp) (args : Args) (us : List Value) (vs : List V) (Q : VK) (E : XK) (p : Addr × Obj) (c : Value), Held c p.2 → L2H.RoomH k A → L2H.PinOk outer H s p →
    Env0 P w K mg base A outer s H → BindsTo s fd args (ps.zip us) → Vals vs us → sp p.1 c vs H Q E → codeAny (model P w) A (.call (.ref f) args) (CR CX0 outer P w H s Q E) s
theorem fn_ofP {P : Program} {w : World} {K : PySem.W.Frag} {mg : Str → Option Value} {base : Heap} {k : Nat} {f : Addr} {x qual : Str} {st : Stmt} {fd : FuncData} {N ps : List Str} {sp : Addr → Value → Sp}
    (F : Fun K x qual st f fd) (S : FnScope N ps (defScope st)) (len : ∀ a c vs H Q E, sp a c vs H Q E → vs.length = ps.length)
    (hbody : ∀ (cdv : Value) (A : Around) (outer : List Env) (s : Shared) (H : Hp) (vs : List V) (Q : VK) (E : XK) (p : Addr × Obj) (c : Value), Held c p.2 → L2H.RoomH k (A.deeper (envOfC qual (defScope st) s.heap.objs.size f cdv)) → sp p.1 c vs H Q E →
      ∃ t, PSs (L2H.cxH CX0 P w K mg base N qual (defScope st) f cdv A outer s H E p) (defBody st) t ∧ t { nx := fun _ H' => Q .non H', rt := Q } (L2.start N vs) H) :
    FnP P w K mg base (k + 1) f fd ps sp := by
  obtain ⟨oc, od, kV, doc, pm, an, cdv, ct, osl, rfl, lk, hcd⟩ := F.ex
  refine ⟨len, ?_⟩
  intro A outer s H args us vs Q E p c hc hr hpin e0 hb r hsp
  have hin : K.In s.heap := e0.mod.kin.keeps (fun b o e => And.left (e0.bs b o e))
  refine codeAny_call_function hr.depth (hin _ _ lk) rfl S.co S.gen rfl (PySem.W.codeRec_of hin hcd) (hb _ _ _ _ (wpAny_newFunctionEnv_cells S.kind ?_ ?_))
  · rintro ⟨n, v⟩ hy
    exact (S.par n (List.of_mem_zip hy).1).elim .inl fun q => .inr ⟨q, PySem.W.cellsFrom_some _ _ _ (.inl q)⟩
  · intro env he s1 y
    subst he
    refine ⟨(e0.mod.nolimit.keeps (fun b o e => And.left (e0.bs b o e))).keeps y.toInCall.keep, codeAny_func ?_⟩
    obtain ⟨t, ht, hq⟩ := hbody cdv A outer s H vs Q E p c hc (hr.deeper _) hsp
    refine wpAny_mono (ht.run [] s1 (L2.start N vs) H _ (L2H.inv_startH S hpin e0 (len _ _ _ _ _ _ hsp) r y) hq) ?_ (fun _ _ z => z)
    intro fl s' hs
    match fl, hs with
    | .ret u, ⟨v, σ', H', J, rv, z⟩ => exact ⟨v, H', J.os, J.bare, J.base, J.hok, rv, z⟩
    | .next, ⟨σ', H', J, z⟩ => exact ⟨V.non, H', J.os, J.bare, J.base, J.hok, rfl, z⟩
    | .brk, ⟨_, _, _, z⟩ => exact z.elim
    | .cont, ⟨_, _, _, z⟩ => exact z.elim
section
variable {X : Cx} {k : Nat} {f : Addr} {fd : FuncData} {ps : List Str} {sp : Addr → Value → Sp} {x : Str} {q pos : Pos} {e : Expr} {es : List Expr} {t : TA}
/-- a call of such a def within the suite -/
def tCallP (a : Addr) (cls : Value) (d : Option Addr) (sp : Addr → Value → Sp) (t : TA) : TE := fun σ H Q => d = none ∧ t σ H fun vs H1 => sp a cls vs H1 Q E0
theorem pe_callP {a : Addr} {oe : Obj} {cls : Value} {d : Option Addr} (F : FnP X.prog X.w X.K X.mg X.base k f fd ps sp) (hr : L2H.RoomH k X.A) (hp : (a, oe) ∈ X.pn) (hz : Zc cls d oe) (hf : ∃ vs, oe.data = .fields vs) (hg : Gl X x) (hm : X.mg x = some (.ref f))
    (hk : PySem.W.keepIn X.K (.ref f) = true) (hb : Binds X.K fd ps []) (ha : PA X (e :: es) t) (hdb : (x == ("__debug__" : Str)) = false := by decide) (he : starEach (e :: es) X.env = (false, eval e X.env) :: starEach es X.env := by rfl)
    (hpl : (backTo pos (starEach es X.env)).any (·.1) = false := by rfl) : PE X (.Call (.Name x q) (e :: es) [] pos) (tCallP a cls d sp t) := by
  refine ⟨fun pins s σ H Q I h => ?_⟩
  obtain ⟨rfl, h⟩ := h
  refine wpAny_Call_Name_kw (ld_glob I hg hm (PySem.W.callWith_K (h₀ := X.base) I.ok.mod.kin hk (thn (ha.run pos pins s σ H _ I h) ?_) he hpl) hdb)
  rintro us s1 ⟨vs, H1, J, r, h1⟩
  refine ⟨J.kIn, ?_⟩
  have b := hb s1 us J.kIn (by rw [List.append_nil, ← r.length]; exact F.len _ _ _ _ _ _ h1)
  rw [List.append_nil] at b
  obtain ⟨g1, g2, g3, g4, g5⟩ := J.pin (a, oe) (List.mem_append_left _ hp)
  refine wpAny_call (codeAny_mono (F.run X.A X.stack s1 H1 ⟨us, []⟩ us vs Q E0 (a, oe) cls ⟨hz, hf⟩ hr ⟨g1, g2, fun hm => (List.mem_cons.mp (J.stkSub a hm)).elim g3 g4, g5⟩ J.env0 b r h1) ?_)
  intro r s' hq
  match r, hq with
  | .error _, hq => exact hq.elim
  | .ok (.ret _), hq => exact J.after hq
  | .ok .next, hq => exact hq.elim
  | .ok .brk, hq => exact hq.elim
  | .ok .cont, hq => exact hq.elim
end
/-- isinstance(e, c), e the pinned exception, of the class D -/
def rIsP (K : PySem.W.Frag) (D a : Addr) : List V → Hp → VK → Prop := fun xs H Q => ∃ (C : V) (cv : Value) (b : Bool), xs = [.ref a, C] ∧ (∀ u, RelV C u → u = cv) ∧ PySem.W.kitOne K (.ref D) cv = some b ∧ Q (.bl b) H
theorem call_isP {X : Cx} {D : Addr} {p : Addr × Obj} (C : ExcC X.K D) (hp : p ∈ X.pn) (hh : Held (.ref D) p.2) : CallR X (.builtin "isinstance") (rIsP X.K D p.1) := by
  rintro pins s σ H xs us Q I r ⟨c, cv, b, rfl, hcv, e, q⟩
  obtain ⟨⟨h1, h2⟩, vs, hv⟩ := hh
  obtain ⟨u1, u2, rfl, rx, rt⟩ := vals2 r
  cases rx
  cases hcv _ rt
  have J : PySem.W.InstAt s.heap p.1 p.2 D none := ⟨(I.pin p (List.mem_append_left _ hp)).1, h1, by unfold PySem.W.notCls; rw [hv], by rw [h2]; trivial⟩
  exact PySem.W.kia_one (PySem.W.handS_kitx_exc C.hg C.hk C.hs C.hd C.ha C.hn C.ht C.hm) I.kIn J e (fun z => nomatch z) fun tk => ⟨.bl b, H, I.kept (t' := tk) fun _ _ z => z, rfl, q⟩

/-! ### things of any kind, as isinstance(x, str) asks -/
def isStr : V → Bool
  | .str _ => true
  | _ => false
/-- of a known built-in type -/
def Th (K : PySem.W.Frag) (H : Hp) (x : V) : Prop := ∃ n : String, TyX K H x (.type n) ∧ kitB n "str" = some (isStr x)
theorem th_non {K : PySem.W.Frag} {H : Hp} : Th K H .non := ⟨_, .base .non, by decide +kernel⟩
theorem th_bl {K : PySem.W.Frag} {H : Hp} {b : Bool} : Th K H (.bl b) := ⟨_, .base (.bl b), show kitB "bool" "str" = some false by decide +kernel⟩
theorem th_int {K : PySem.W.Frag} {H : Hp} {i : Int} : Th K H (.int i) := ⟨_, .base (.int i), show kitB "int" "str" = some false by decide +kernel⟩
theorem th_str {K : PySem.W.Frag} {H : Hp} {z : Str} : Th K H (.str z) := ⟨_, .base (.str z), show kitB "str" "str" = some true by decide +kernel⟩
theorem th_lst {K : PySem.W.Frag} {H : Hp} {a : Addr} {xs : List V} (h : H a = some (.lst xs)) : Th K H (.ref a) := ⟨_, .base (.lst h), show kitB "list" "str" = some false by decide +kernel⟩
theorem th_tup {K : PySem.W.Frag} {H : Hp} {a : Addr} {xs : List V} (h : H a = some (.tup xs)) : Th K H (.ref a) := ⟨_, .base (.tup h), show kitB "tuple" "str" = some false by decide +kernel⟩
/-! ### the module's constants -/
section
variable {X : Cx} {x : Str} {pos : Pos}
theorem pe_gS {z : Str} {t : Tok} (hg : Gl X x) (hm : X.mg x = some (.str z t)) (hd : (x == ("__debug__" : Str)) = false := by decide) : PE X (.Name x pos) (tC (.str z)) := pe_glob hg hm ⟨_, rfl⟩ hd
theorem pe_gI {i : Int} {t : Tok} (hg : Gl X x) (hm : X.mg x = some (.int i t)) (hd : (x == ("__debug__" : Str)) = false := by decide) : PE X (.Name x pos) (tC (.int i)) := pe_glob hg hm ⟨_, rfl⟩ hd
theorem pe_gR {a : Addr} (hg : Gl X x) (hm : X.mg x = some (.ref a)) (hd : (x == ("__debug__" : Str)) = false := by decide) : PE X (.Name x pos) (tC (.ref a)) := pe_glob (v := .ref a) hg hm rfl hd
end
theorem b_str : bootBuiltins "str" = some (.type "str") := by decide +kernel
theorem b_int : bootBuiltins "int" = some (.type "int") := by decide +kernel
theorem b_tuple : bootBuiltins "tuple" = some (.type "tuple") := by decide +kernel
theorem b_list : bootBuiltins "list" = some (.type "list") := by decide +kernel
theorem b_ValueError : bootBuiltins "ValueError" = some (.type "ValueError") := by decide +kernel
theorem same_upd {H : Hp} {p : Addr} {o : HO} (h : H p = none) : Same H (upd H p o) := fun b x e => by
  rw [upd_ne (ne_of_none e h)]
  exact e
/-! ### comprehensions without a test -/
section
variable {J : It} {n : Nat} {G : Hp → Prop} {Y : Nat → Hp → V → Hp → Prop}
theorem lc_itY (w : Walk J n G Y) {g : TG} {te : TE} {vs : List Nat} {σ : L2.St} {H1 : Hp} {D : Addr} {Qd : Hp → Prop} (Pv : Nat → Hp → Prop) (h0 : Pv 0 (upd H1 D (.lst []))) (hG : ∀ i H, i ≤ n → Pv i H → G H)
    (hs : ∀ i x H H', i < n → Pv i H → Y i H x H' → g x (wipe σ vs) H' fun σ2 H2 => wipe σ2 vs = wipe σ vs ∧ te σ2 H2 fun y H4 => ∃ acc, H4 D = some (.lst acc) ∧ acc.length < sizeLine ∧ Pv (i + 1) (upd H4 D (.lst (acc ++ [y])))) (hd : ∀ H, Pv n H → Qd H) :
    ∃ W : Nat → Nat → Hp → Prop, (∃ m, W 0 m (upd H1 D (.lst []))) ∧ ∀ i m H, W i m H →
      (J.stop i H ∧ Qd H) ∨ (J.go i H ∧ ∃ Nx : Hp → Prop, (∀ H', Nx H' → ∃ m', m' < m ∧ W (i + 1) m' H') ∧ ∀ x H', J.yld i H x H' → g x (wipe σ vs) H' fun σ2 H2 => wipe σ2 vs = wipe σ vs ∧ tYes σ2 H2 fun b H3 =>
        if b = true then te σ2 H3 fun y H4 => ∃ acc, H4 D = some (.lst acc) ∧ acc.length < sizeLine ∧ Nx (upd H4 D (.lst (acc ++ [y]))) else Nx H3) :=
  lc_it (tt := tYes) w Pv h0 hG (fun i x H H' hi p y => hs i x H H' hi p y) hd
end
/-! ### a list of ints as data -/
theorem dp_ints {K : PySem.W.Frag} {H : Hp} : ∀ ns : List Int, DpAll K H (ns.map V.int) (ns.map PyData.int)
  | [] => .nil
  | n :: ns => .cons (.int n) (dp_ints ns)
theorem can_ints : ∀ ns : List Int, PyData.canLayAll0 (ns.map PyData.int) = true
  | [] => rfl
  | n :: ns => by
    rw [List.map_cons]
    show (true && PyData.canLayAll0 (ns.map PyData.int)) = true
    rw [can_ints ns]
    rfl
theorem depth_ints : ∀ ns : List Int, PyData.depthAll (ns.map PyData.int) = 0
  | [] => rfl
  | n :: ns => by
    rw [List.map_cons]
    show max 0 (PyData.depthAll (ns.map PyData.int)) = 0
    rw [depth_ints ns]
    rfl
theorem shaped_ints (ns : List Int) : SeqAt.shaped (.list (ns.map PyData.int)) = true := by
  unfold SeqAt.shaped
  have h1 : PyData.canLay0 (.list (ns.map PyData.int)) = true := can_ints ns
  have h2 : PyData.depth (.list (ns.map PyData.int)) = 1 := by
    show PyData.depthAll (ns.map PyData.int) + 1 = 1
    rw [depth_ints]
  rw [h1, h2]
  rfl
/-! ### the town: [how many cells are gone, what is left of a great one] -/
structure TownAt (H : Hp) (p : Addr) : Prop where
  ex : ∃ i j : Int, 0 ≤ i ∧ H p = some (.lst [.int i, .int j])
/-- all that was tracked, but what stands at p, is as it was -/
def SameBut (p : Addr) (H H' : Hp) : Prop := ∀ b o, b ≠ p → H b = some o → H' b = some o
theorem SameBut.refl (p : Addr) (H : Hp) : SameBut p H H := fun _ _ _ h => h
theorem SameBut.trans {p : Addr} {H H1 H2 : Hp} (a : SameBut p H H1) (b : SameBut p H1 H2) : SameBut p H H2 := fun c o n h => b c o n (a c o n h)
theorem _root_.L2.Same.but {p : Addr} {H H' : Hp} (s : Same H H') : SameBut p H H' := fun b o _ h => s b o h
theorem SameBut.upd {p : Addr} {H H' : Hp} {o : HO} (s : SameBut p H H') : SameBut p H (upd H' p o) := fun b u n h => by
  rw [upd_ne n]
  exact s b u n h
theorem SameBut.lay {p q : Addr} {H H' : Hp} {o : HO} (s : SameBut p H H') (h : H' q = none) : SameBut p H (L2.upd H' q o) := fun b u n e => same_upd h b u (s b u n e)
theorem SameBut.seq {K : PySem.W.Frag} {p : Addr} {H H' : Hp} {a : Addr} {xs : List V} (s : SameBut p H H') (n : a ≠ p) (h : SqL K H a xs) : SqL K H' a xs := by
  rcases h with (h | ⟨o, h⟩) | h
  · exact .inl (.inl (s _ _ n h))
  · exact .inl (.inr ⟨o, s _ _ n h⟩)
  · exact .inr h
/-- a list that is read, whatever becomes of p -/
def Stb (K : PySem.W.Frag) (H : Hp) (p a : Addr) (xs : List V) : Prop := ∀ H', SameBut p H H' → SqL K H' a xs
theorem stb_new {K : PySem.W.Frag} {H : Hp} {p a : Addr} {o : HO} {xs : List V} (h : SqL K H a xs) (n : H p = none) : Stb K (upd H p o) p a xs := by
  intro H' s
  rcases h with (h | ⟨o, h⟩) | h
  · exact .inl (.inl (s _ _ (ne_of_none h n) (by rw [upd_ne (ne_of_none h n)]; exact h)))
  · exact .inl (.inr ⟨o, s _ _ (ne_of_none h n) (by rw [upd_ne (ne_of_none h n)]; exact h)⟩)
  · exact .inr h
theorem Stb.mono {K : PySem.W.Frag} {H H' : Hp} {p a : Addr} {xs : List V} (h : Stb K H p a xs) (s : SameBut p H H') : Stb K H' p a xs := fun H2 s2 => h H2 (s.trans s2)
/-- a draw: a number below m, the town turned -/
def sp_draw (K : PySem.W.Frag) : Sp := fun vs H Q _ => ∃ (a p : Addr) (ns : List Int) (m : Int), vs = [.ref a, .ref p, .int m] ∧ Stb K H p a (ns.map V.int) ∧ ns.length ≤ 63 ∧ TownAt H p ∧ 0 < m ∧ m < 1073741824 ∧
  ∀ H' r, 0 ≤ r → r < m → TownAt H' p → SameBut p H H' → Q (.int r) H'
/-- one of some -/
def sp_pick (K : PySem.W.Frag) : Sp := fun vs H Q _ => ∃ (a p l : Addr) (ns : List Int) (xs : List V), vs = [.ref a, .ref p, .ref l] ∧ Stb K H p a (ns.map V.int) ∧ ns.length ≤ 63 ∧ TownAt H p ∧ SqL K H l xs ∧ l ≠ p ∧ xs ≠ [] ∧ xs.length ≤ 1000 ∧
  ∀ H' x, x ∈ xs → TownAt H' p → SameBut p H H' → Q x H'
/-! ### xs.extend([..]): the heap behind it by what is asked of it -/
theorem Same.ext {H H1 : Hp} {l b : Addr} {o u : HO} (s : Same H H1) (nl : H l = none) (nb : H1 b = none) : Same H (upd (upd H1 b o) l u) := fun c z e => by
  rw [upd_ne (ne_of_none e nl), upd_ne (ne_of_none (s c z e) nb)]
  exact s c z e
theorem ext_step {H H1 : Hp} {l b : Addr} {xs zs : List V} {Q : VK} (s : Same H H1) (nl : H l = none) (e : H1 l = some (.lst xs)) (nb : H1 b = none) (hl : xs.length + zs.length ≤ sizeLine)
    (k : ∀ H2, Same H H2 → H2 l = some (.lst (xs ++ zs)) → Q .non H2) : rExtend (.ref l) [.ref b] (upd H1 b (.lst zs)) Q :=
  ⟨l, b, xs, zs, rfl, rfl, (upd_ne (ne_of_none e nb)).trans e, upd_same, hl, k _ (Same.ext s nl nb) upd_same⟩
/-! ### a text of one sign, so many times -/
def strRep (x : Str) (n : Nat) : Str := ⟨(List.replicate n x.cps).foldl (· ++ ·) #[]⟩
theorem op_mulS {X : Cx} : OpR X (binaryOp .Mult) (fun x y H Q => ∃ (z : Str) (n : Nat), x = .str z ∧ y = .int (n : Nat) ∧ z.length = 1 ∧ 1 < n ∧ n ≤ 100000 ∧ (strRep z n).length ≤ sizeLine ∧ Q (.str (strRep z n)) H) := by
  intro pins s σ H x y v u Q I rx ry h
  obtain ⟨z, n, rfl, rfl, hz, h1, h2, h3, q⟩ := h
  obtain ⟨t, rfl⟩ := rx
  obtain ⟨t', rfl⟩ := ry
  have c1 : ¬ ((n : Int) < 1) := by omega
  have c2 : ((n : Int) == 1 || z.length == 0) = false := by
    rw [hz, Bool.or_eq_false_iff]
    exact ⟨beq_eq_false_iff_ne.mpr (by omega), rfl⟩
  refine PySem.P.mul_str ?_ (fun _ _ => ?_) (fun _ _ => ?_) ?_
  · rw [decide_eq_false (by omega), decide_eq_false (by omega)]
    rfl
  · rw [hz]
    intro hgt
    have h5 : (n : Int) * ((2 ^ 63 - 1) / (n : Int)) ≤ 2 ^ 63 - 1 := Int.mul_ediv_self_le (by omega)
    have h6 : (1 : Int) ≤ (2 ^ 63 - 1) / (n : Int) := Int.le_ediv_of_mul_le (by omega) (by omega)
    have : ((1 : Nat) : Int) > (2 ^ 63 - 1) / (n : Int) := hgt
    omega
  · have e : Int.toNat (n : Int) = n := rfl
    rw [hz, e]
    unfold Builtin.Str.tooLong
    rw [sizeLine_eq]
    exact decide_eq_false (by omega)
  · rw [if_neg c1, if_neg (by rw [c2]; exact Bool.false_ne_true)]
    exact ⟨h3, .str (strRep z n), H, I.tok _, ⟨_, rfl⟩, q⟩
theorem TownAt.but {H H' : Hp} {p : Addr} (t : TownAt H p) (s : Same H H') : TownAt H' p := by
  obtain ⟨i, j, h, e⟩ := t
  exact ⟨i, j, h, s _ _ e⟩
theorem TownAt.lt {H : Hp} {p q : Addr} (t : TownAt H p) (h : H q = none) : p ≠ q := by
  obtain ⟨i, j, _, e⟩ := t
  exact ne_of_none e h
end Kin

set_option maxHeartbeats 2000000
/-! enumerate of a text; zip of a list and a text -/
namespace Kin
open PySem PySem.Spec PyProof.Rows L2
/-- a text's signs, each in a new pair behind its number -/
def ItES (z : Str) : It :=
  ⟨fun i _ => i < z.cps.size, fun i H v H' => ∃ T c, v = .ref T ∧ H T = none ∧ H' = upd H T (.tup [.int (i : Nat), .str ⟨#[c]⟩]) ∧ z.cps[i]? = some c, fun i _ => i = z.cps.size⟩
theorem turn_enumS {P : Program} {w : World} {K : PySem.W.Frag} {elts : List Expr} {kk : Nat} {tpos : Pos} (z : Str) (tz : Tok) (e it : Addr) :
    Turn P w K (.Tuple elts kk tpos) (ItES z) [e, it] e (fun i h => (∃ old, IsEnum h e it ((i : Nat) : Int) old) ∧ h.IsStrIter it (strIterType z) z tz i ∧ e ≠ it) where
  mem := List.mem_cons_self
  obj := by
    rintro i h ⟨⟨old, he⟩, ⟨o, ho, _, hd⟩, _⟩ b hb
    rcases (show b = e ∨ b = it by simpa using hb) with rfl | rfl
    · exact ⟨_, he, fun v q => nomatch q⟩
    · exact ⟨o, ho, fun v q => by rw [hd] at q; cases q⟩
  keep := by
    rintro i h h' ⟨⟨old, he⟩, ⟨o, ho, hc, hd⟩, hne⟩ k
    exact ⟨⟨old, k e List.mem_cons_self _ he⟩, ⟨o, k it (List.mem_cons_of_mem _ List.mem_cons_self) _ ho, hc, hd⟩, hne⟩
  item := by
    rintro X rfl rfl rfl hc i pins s σ H E I hf ⟨⟨old, he⟩, hit, hne⟩ hg
    have hel : e < s.heap.objs.size := Heap.lt_size he
    have hil : it < s.heap.objs.size := by obtain ⟨_, q, _⟩ := hit; exact Heap.lt_size q
    have Dr := Draws.text (prog := X.prog) (w := X.w) (A := X.A.in1) (I.ok.hd hc) it z tz
    refine wpAny_pyNext_enum_itemD Dr he hit hg hne (fun q => hne (List.mem_singleton.mp q)) ?_
    rintro x h' tk ⟨c, u, hx, rfl⟩ ho hit' hT hsz hk
    refine ⟨_, rfl, wpAny_letOwnedTupleGo_enum (s := { s with heap := h', toks := tk + 1 }) ho fun h2 he2 sb => ?_⟩
    have hT2 : h2.get? s.heap.objs.size = some { cls := .type "tuple", data := .seq #[.int i tk, .str ⟨#[c]⟩ u] } := (sb.2 _ (Nat.ne_of_gt hel)).trans hT
    have new : ObjOk X.prog X.w (upd H s.heap.objs.size (.tup [.int (i : Nat), .str ⟨#[c]⟩])) h2 s.heap.objs.size (.tup [.int (i : Nat), .str ⟨#[c]⟩]) :=
      ⟨by show 2 ≤ sizeLine; decide, [.int i tk, .str ⟨#[c]⟩ u], .cons ⟨_, rfl⟩ (.cons ⟨_, rfl⟩ .nil), ⟨_, hT2, rfl, _, rfl⟩⟩
    have J := I.turnedNew (t' := tk + 1) (ch := [e, it]) (fun b ob hb q => (sb.2 b (fun y => hb (by simp [y]))).trans (hk b ob (fun y => hb (by simp [y])) (fun y => hb (by simp [y])) q)) hf (Nat.le_refl _) new
    refine ⟨.ref s.heap.objs.size, _, J, rfl, ⟨_, c, rfl, I.hok.fresh (Nat.le_refl _), rfl, hx⟩, ⟨⟨Value.str ⟨#[c]⟩ u, ?_⟩, ?_, hne⟩, fun b hb => ?_⟩
    · rw [show ((i + 1 : Nat) : Int) = (i : Int) + 1 by omega]
      exact he2
    · obtain ⟨o, q1, q2, q3⟩ := hit'
      exact ⟨o, (sb.2 it (Ne.symm hne)).trans q1, q2, q3⟩
    · have hb' : b < s.heap.objs.size := by
        rcases (show b = e ∨ b = it by simpa using hb) with rfl | rfl
        · exact hel
        · exact hil
      rw [upd_ne (Nat.ne_of_lt hb')]
      exact (hf b hb).1
  done := by
    rintro X rfl rfl rfl hc i pins s σ H E I hf ⟨⟨old, he⟩, hit, hne⟩ hg
    have hg' : i = z.cps.size := hg
    subst hg'
    obtain ⟨f0, f1, f2, f3, f4, f5⟩ := hf it (List.mem_cons_of_mem _ List.mem_cons_self)
    have Dr := Draws.text (prog := X.prog) (w := X.w) (A := X.A.in1) (I.ok.hd hc) it z tz
    exact wpAny_pyNext_enum_endD Dr he hit fun h' hx => ⟨rfl, I.turned (t' := s.toks) (fun b o hb q => hx b o hb q) f0 f1 f3 f4 f5⟩
  self := fun A i s Q E st h => by
    obtain ⟨⟨_, he⟩, _⟩ := st
    exact wpAny_pyIter_enum he h
def iEnumS (ta : TA) : TI := fun σ H R => ta σ H fun vs H1 => ∃ z, vs = [.str z] ∧ R (ItES z) H1
theorem pi_enumS {X : Cx} {e : Expr} {ta : TA} {p pos tpos : Pos} {elts : List Expr} {kk : Nat} (hg : Gl X "enumerate") (hm : X.mg "enumerate" = none) (ha : PA X [e] ta) (hs : starEach [e] X.env = [(false, eval e X.env)] := by rfl) :
    PI X (.Tuple elts kk tpos) (.Call (.Name "enumerate" p) [e] [] pos) (iEnumS ta) := by
  refine ⟨fun pins s σ H R I h => ?_⟩
  refine Call_ (ld_blt I hg hm boot_enumerate (PyProof.Rows.callWith_type1 (thn (ha.run pos pins s σ H _ I h) ?_) hs rfl))
  rintro us s1 ⟨vs, H1, I1, r1, z, rfl, q⟩
  obtain ⟨u, rfl, t, rfl⟩ := vals1 r1
  refine call_enumerate_str fun h' he hit hsz hk => wpAny_pyIter_enum he ?_
  have I2 : Inv X pins σ H1 { s1 with heap := h' } := I1.kept (t' := s1.toks) hk
  refine ⟨s1.heap.objs.size + 1, [s1.heap.objs.size + 1, s1.heap.objs.size], _, _, H1, rfl, I2, turn_enumS z t (s1.heap.objs.size + 1) s1.heap.objs.size, ⟨⟨.none, he⟩, hit, Nat.succ_ne_self _⟩, fun b hb => ?_, q⟩
  have hle : s1.heap.objs.size ≤ b := by
    rcases (show b = s1.heap.objs.size + 1 ∨ b = s1.heap.objs.size by simpa using hb) with rfl | rfl
    · exact Nat.le_add_right _ _
    · exact Nat.le_refl _
  exact I1.fpOk hle (I1.hok.fresh hle)
theorem walk_enumS {z : Str} : Walk (ItES z) z.cps.size (fun _ => True) (fun i H v H' => ∃ T c, v = .ref T ∧ H T = none ∧ H' = upd H T (.tup [.int (i : Nat), .str ⟨#[c]⟩]) ∧ z.cps[i]? = some c) :=
  ⟨fun _ _ hi _ => hi, fun _ _ => rfl, fun _ _ _ _ _ _ y => y⟩
/-! ### zip(list, text) -/
def ItZS (K : PySem.W.Frag) (a : Addr) (z : Str) : It :=
  ⟨fun i H => i < z.cps.size ∧ ∃ (xs : List V) (x : V), SqL K H a xs ∧ xs[i]? = some x,
    fun i H v H' => ∃ T x c, v = .ref T ∧ H T = none ∧ H' = upd H T (.tup [x, .str ⟨#[c]⟩]) ∧ (∀ xs, SqL K H a xs → xs[i]? = some x) ∧ z.cps[i]? = some c,
    fun i H => ∃ xs : List V, SqL K H a xs ∧ i ≤ xs.length ∧ i ≤ z.cps.size ∧ (i = xs.length ∨ i = z.cps.size)⟩
theorem turn_zipS {P : Program} {w : World} {K : PySem.W.Frag} {elts : List Expr} {kk : Nat} {tpos : Pos} {a z TI TO i1 i2 : Addr} (zs : Str) (tz : Tok) (S : ZipSep2 z TI TO i1 i2 [i1, a] [i2]) (hd : [z, TI, TO, i1, i2].Nodup) :
    Turn P w K (.Tuple elts kk tpos) (ItZS K a zs) [z, TI, TO, i1, i2] z
      (fun i h => IsZip h z TI TO .none ∧ IsTupOf2 h TI (.ref i1) (.ref i2) ∧ (∃ x y, IsTupOf2 h TO x y) ∧ h.IsListIter i1 a i ∧ h.IsStrIter i2 (strIterType zs) zs tz i) where
  mem := List.mem_cons_self
  obj := by
    rintro i h ⟨hz, hTI, ⟨x, y, hTO⟩, ⟨o1, e1, _, d1⟩, ⟨o2, e2, _, d2⟩⟩ c hc
    rcases (show c = z ∨ c = TI ∨ c = TO ∨ c = i1 ∨ c = i2 by simpa using hc) with rfl | rfl | rfl | rfl | rfl
    · exact ⟨_, hz, fun v q => nomatch q⟩
    · exact ⟨_, hTI, fun v q => nomatch q⟩
    · exact ⟨_, hTO, fun v q => nomatch q⟩
    · exact ⟨o1, e1, fun v q => by rw [d1] at q; cases q⟩
    · exact ⟨o2, e2, fun v q => by rw [d2] at q; cases q⟩
  keep := by
    rintro i h h' ⟨hz, hTI, ⟨x, y, hTO⟩, h1, ⟨o2, e2, c2, d2⟩⟩ k
    exact ⟨k z (by simp) _ hz, k TI (by simp) _ hTI, ⟨x, y, k TO (by simp) _ hTO⟩, h1.at fun o q => k i1 (by simp) o q, ⟨o2, k i2 (by simp) _ e2, c2, d2⟩⟩
  item := by
    rintro X rfl rfl rfl hc i pins s σ H E I hf ⟨hz, hTI, ⟨x0, y0, hTO⟩, h1, h2⟩ ⟨hlz, xs, x, hqx, hx⟩
    obtain ⟨its, rv, p, _⟩ := I.list hqx
    obtain ⟨u, hu, ru⟩ := rv.get hx
    have hzl : z < s.heap.objs.size := Heap.lt_size hz
    have hli : i < its.toArray.size := by simpa using (List.getElem?_eq_some_iff.mp hu).1
    have D1 := Draws.list (prog := X.prog) (w := X.w) (A := X.A.in1) (I.ok.hd hc) i1 a (fun q => by
      obtain ⟨o, e, hcl, _⟩ := h1
      obtain ⟨o', n, e', hcl', _⟩ := p
      rw [q, e] at e'
      cases e'
      rw [hcl] at hcl'
      exact absurd (Value.type.inj hcl') (by decide)) its.toArray
    have D2 := Draws.text (prog := X.prog) (w := X.w) (A := X.A.in1) (I.ok.hd hc) i2 zs tz
    refine wpAny_pyNext_zipD2_item S D1 D2 hz hTI hTO ⟨h1, p.isList⟩ h2 hli hlz ?_
    rintro v1 v2 h' tk hv1 ⟨c, u2, hv2, rfl⟩ z' TO' ⟨h1', _⟩ h2' hT hsz hk
    have ev : v1 = u := by
      have q1 : its.toArray[i]? = some u := by simpa using hu
      exact Option.some.inj (hv1.symm.trans q1)
    subst ev
    refine ⟨_, rfl, wpAny_letOwnedTupleGo_zip (s := { s with heap := h', toks := tk }) z' fun h3 z3 sb => ?_⟩
    have hT2 : h3.get? s.heap.objs.size = some { cls := .type "tuple", data := .seq #[v1, .str ⟨#[c]⟩ u2] } := (sb.2 _ (Nat.ne_of_gt hzl)).trans hT
    have new : ObjOk X.prog X.w (upd H s.heap.objs.size (.tup [x, .str ⟨#[c]⟩])) h3 s.heap.objs.size (.tup [x, .str ⟨#[c]⟩]) :=
      ⟨by show 2 ≤ sizeLine; decide, [v1, .str ⟨#[c]⟩ u2], .cons ru (.cons ⟨_, rfl⟩ .nil), ⟨_, hT2, rfl, _, rfl⟩⟩
    have J := I.turnedNew (t' := tk) (ch := [z, TI, TO, i1, i2]) (fun b o hb q => (sb.2 b (fun y => hb (by simp [y]))).trans (hk b o (fun y => hb (by simp [y])) (fun y => hb (by simp [y])) (fun y => hb (by simp [y])) (fun y => hb (by simp [y])) q)) hf (Nat.le_refl _) new
    refine ⟨.ref s.heap.objs.size, _, J, rfl, ⟨_, x, c, rfl, I.hok.fresh (Nat.le_refl _), rfl, fun l hl => by rw [I.list_inj hl hqx]; exact hx, hv2⟩, ⟨z3, ?_, ⟨v1, .str ⟨#[c]⟩ u2, ?_⟩, ?_, ?_⟩, fun b hb => ?_⟩
    · exact (sb.2 _ S.TIz).trans (hk _ _ S.TIz S.TITO S.TIi1 S.TIi2 hTI)
    · exact (sb.2 _ S.TOz).trans TO'
    · exact h1'.at fun o q => (sb.2 _ (Ne.symm S.zi1)).trans q
    · obtain ⟨o, q1, q2, q3⟩ := h2'
      exact ⟨o, (sb.2 _ (Ne.symm S.zi2)).trans q1, q2, q3⟩
    · have hlt : b < s.heap.objs.size := by
        rcases (show b = z ∨ b = TI ∨ b = TO ∨ b = i1 ∨ b = i2 by simpa using hb) with rfl | rfl | rfl | rfl | rfl
        · exact hzl
        · exact Heap.lt_size hTI
        · exact Heap.lt_size hTO
        · obtain ⟨_, e1, _⟩ := h1; exact Heap.lt_size e1
        · obtain ⟨_, e2, _⟩ := h2; exact Heap.lt_size e2
      rw [upd_ne (Nat.ne_of_lt hlt)]
      exact (hf b hb).1
  done := by
    rintro X rfl rfl rfl hc i pins s σ H E I hf ⟨hz, hTI, ⟨x0, y0, hTO⟩, h1, h2⟩ ⟨xs, hqx, hl1, hl2, hend⟩
    obtain ⟨its, rv, p, _⟩ := I.list hqx
    have l1 := rv.length
    have D1 := Draws.list (prog := X.prog) (w := X.w) (A := X.A.in1) (I.ok.hd hc) i1 a (fun q => by
      obtain ⟨o, e, hcl, _⟩ := h1
      obtain ⟨o', n, e', hcl', _⟩ := p
      rw [q, e] at e'
      cases e'
      rw [hcl] at hcl'
      exact absurd (Value.type.inj hcl') (by decide)) its.toArray
    have D2 := Draws.text (prog := X.prog) (w := X.w) (A := X.A.in1) (I.ok.hd hc) i2 zs tz
    refine wpAny_pyNext_zipD2_end S D1 D2 hz hTI hTO ⟨h1, p.isList⟩ h2 (by simp; omega) hl2 ?_ fun h' tk hk => ⟨rfl, I.turnedL (t' := tk) (ch := [z, TI, TO, i1, i2]) (fun b o hb q =>
      hk b o (fun y => hb (by simp [y])) (fun y => hb (by simp [y])) (fun y => hb (by simp [y])) (fun y => hb (by simp [y])) q) hf⟩
    rcases hend with q | q
    · exact .inl (by simp; omega)
    · exact .inr q
  self := fun A i s Q E st h => wpAny_pyIter_zip st.1 h
def iZipS (K : PySem.W.Frag) (ta : TA) : TI := fun σ H R => ta σ H fun vs H1 => ∃ a z xs, vs = [.ref a, .str z] ∧ SqL K H1 a xs ∧ R (ItZS K a z) H1
theorem pi_zipS {X : Cx} {e e2 : Expr} {ta : TA} {p pos tpos : Pos} {elts : List Expr} {kk : Nat} (hg : Gl X "zip") (hm : X.mg "zip" = none) (ha : PA X [e, e2] ta)
    (hs : starEach [e, e2] X.env = (false, eval e X.env) :: starEach [e2] X.env := by rfl) (hpl : (backTo pos (starEach [e2] X.env)).any (·.1) = false := by rfl) :
    PI X (.Tuple elts kk tpos) (.Call (.Name "zip" p) [e, e2] [] pos) (iZipS X.K ta) := by
  refine ⟨fun pins s σ H R I h => ?_⟩
  refine Call_ (ld_blt I hg hm PyProof.Rows.boot_zip (PyProof.Rows.callWith_type1 (thn (ha.run pos pins s σ H _ I h) ?_) hs hpl))
  rintro us s1 ⟨vs, H1, I1, r1, a, z, xs, rfl, hqx, q⟩
  obtain ⟨u1, u2, rfl, ra, t, rfl⟩ := vals2 r1
  cases ra
  obtain ⟨its, rv, p1, _⟩ := I1.list hqx
  have la : a < s1.heap.objs.size := p1.lt
  refine zip_begins2 (begins_list a its.toArray) (begins_text z t) p1.isList trivial fun h' hz hTI hTO h1 h2 hsz hk => wpAny_pyIter_zip hz ?_
  have I2 : Inv X pins σ H1 { s1 with heap := h' } := I1.kept (t' := s1.toks) hk
  have S := zip_sep2 (N := s1.heap.objs.size) (fp1 := [a]) (fp2 := []) (fun b hb => by rw [List.mem_singleton.mp hb]; exact la) (fun b hb => by cases hb)
  refine ⟨s1.heap.objs.size + 4, [s1.heap.objs.size + 4, s1.heap.objs.size + 2, s1.heap.objs.size + 3, s1.heap.objs.size, s1.heap.objs.size + 1], _, _, H1, rfl, I2, turn_zipS z t S ?_, ⟨hz, hTI, ⟨_, _, hTO⟩, ⟨_, h1, rfl, rfl⟩, ⟨_, h2, rfl, rfl⟩⟩, fun c hcm => ?_, q⟩
  · simp
  · have hle : s1.heap.objs.size ≤ c := by
      rcases (show c = s1.heap.objs.size + 4 ∨ c = s1.heap.objs.size + 2 ∨ c = s1.heap.objs.size + 3 ∨ c = s1.heap.objs.size ∨ c = s1.heap.objs.size + 1 by simpa using hcm) with z | z | z | z | z
      all_goals rw [z]
      all_goals first | exact Nat.le_add_right _ _ | exact Nat.le_refl _
    exact I1.fpOk hle (I1.hok.fresh hle)
theorem walk_zipS {K : PySem.W.Frag} {a : Addr} {xs : List V} {z : Str} {n : Nat} (hn : n = min xs.length z.cps.size) : Walk (ItZS K a z) n (fun H => SqL K H a xs)
    (fun i H v H' => ∃ T x c, v = .ref T ∧ H T = none ∧ H' = upd H T (.tup [x, .str ⟨#[c]⟩]) ∧ xs[i]? = some x ∧ z.cps[i]? = some c) := by
  subst hn
  refine ⟨fun i _ hi q => ⟨by omega, xs, xs[i]'(by omega), q, List.getElem?_eq_getElem (by omega)⟩, fun _ q => ⟨xs, q, by omega, by omega, by omega⟩, fun i H v H' _ q y => ?_⟩
  obtain ⟨T, x, c, h1, h2, h3, h4, h5⟩ := y
  exact ⟨T, x, c, h1, h2, h3, h4 xs q, h5⟩
end Kin

set_option maxHeartbeats 2000000
/-! sep.join(reversed(list of texts)) -/
namespace Kin
open PySem PySem.Spec PyProof.Rows L2
section
variable {prog : Program} {w : World} {A : Around} {E : Value → Shared → Prop} {s : Shared}
theorem rev_items {its : List Value} {acc : Array Value} (h : ItemsOf (fun i v => its.toArray[its.toArray.size - 1 - i]? = some v) acc its.toArray.size) : acc.toList = its.reverse := by
  obtain ⟨h1, h2⟩ := h
  apply List.ext_getElem?
  intro i
  by_cases hi : i < acc.size
  · have e1 : acc.toList[i]? = some acc[i] := by simp [hi]
    have e2 := h2 i acc[i] (by simp [hi])
    rw [e1, List.getElem?_reverse (by simp at h1; omega)]
    simpa using e2.symm
  · rw [List.getElem?_eq_none (by simpa using hi), List.getElem?_eq_none (by simp at h1 ⊢; omega)]
theorem fit_of {x : Str} {l : List (Str × Tok)} (h : JoinOk x (l.map (·.1)) = true) : Builtin.Str.tooLong ((l.map (·.1)).toArray.foldl (· + ·.length + x.length) 0) = false := by
  unfold JoinOk at h
  rwa [Bool.not_eq_true'] at h
theorem gives_joined {x : Str} : ∀ {l : List (Str × Tok)}, JoinOk x (l.map (·.1)) = true → Gives (joinTail x (strValues l)) (joinMade x l)
  | [], h => gives_joinTail x [] (fit_of h)
  | [p], h => gives_joinTail x [p] (fit_of h)
  | p :: q :: r, h => gives_joinTail x (p :: q :: r) (fit_of h)
theorem join_rev {x : Str} {t : Tok} {l : Addr} {items : List (Str × Tok)} {Q : Value → Shared → Prop} (hh : A.handled = none) (hl : s.heap.IsList l (strValues items).toArray) (hn : items.length ≤ 1000000)
    (hok : JoinOk x (items.reverse.map (·.1)) = true)
    (hq : ∀ h' t' k, (∀ b o, s.heap.get? b = some o → h'.get? b = some o) → Q (.str (Txt.join x (items.reverse.map (·.1))) t') { s with heap := h', toks := k }) :
    wpAny (model prog w) A (call (.type "reversed") [.ref l]) (fun v s1 => wpAny (model prog w) A (call (.builtin "str.join") [.str x t, v]) Q E s1) E s := by
  have hlen : (strValues items).length = items.length := by unfold strValues; rw [List.length_map]
  have hsl := sizeLine_eq
  have ll : l < s.heap.objs.size := by obtain ⟨o, ho, _⟩ := hl; exact Heap.lt_size ho
  refine call_reversed_list hl ?_
  generalize hg : s.heap.push (revObj l (((strValues items).toArray.size : Int) - 1)) = g
  have hit : g.IsRevIter s.heap.objs.size l (((strValues items).toArray.size : Int) - 1) := by rw [← hg]; exact ⟨_, Heap.get?_push_size _ rfl, rfl, rfl⟩
  have hk : ∀ b o, s.heap.get? b = some o → g.get? b = some o := fun b o e => by rw [← hg]; exact Heap.get?_push_of_some _ e
  have hl' : g.IsList l (strValues items).toArray := hl.at fun o e => hk _ _ e
  refine wpAny_call (codeAny_call_builtin PySem.F.slot_str_join.plain PySem.F.entry_str_join (PySem.F.slot_str_join.check _ _ _ _ _ _ _ _ (typeIs_str _ _ _) (PySem.F.args_str_join_2 _ _) ?_))
  rw [join_tree_other]
  refine wpAny_bind (wpAny_typeOf (T := "list_reverseiterator") hit.typeIs ?_)
  refine wpAny_bind (wpAny_tryCatch (wpAny_pyIter_revIter hit ?_))
  refine wpAny_bind (RT.collect_rev (s := { s with heap := g }) hh hit hl' (Nat.ne_of_lt ll) (by rw [List.size_toArray, hlen]; omega) fun h' tk acc hk' ha => ?_)
  rw [rev_items ha]
  have er : (strValues items).reverse = strValues items.reverse := by unfold strValues; rw [List.map_reverse]
  rw [er]
  refine gives_joined hok prog w A (wants Q E) _ (post_join items.reverse ⟨joinFit_length (fit_of hok), fun t' k => hq h' t' k fun b o e => hk' b o ?_ (hk b o e)⟩)
  exact Nat.ne_of_lt (Heap.lt_size e)
end
section
variable {X : Cx}
/-- sep.join(reversed(xs)), xs a list of texts -/
def tJoinRev (K : PySem.W.Frag) (to : TE) (ta : TA) : TE := fun σ H Q => to σ H fun x H1 => (∃ a, x = .str a) ∧ ta σ H1 fun vs H2 => ∃ (a : Str) (q : Addr) (ys : List Str), x = .str a ∧ vs = [.ref q] ∧ SqL K H2 q (ys.map V.str) ∧ ys.length ≤ 1000000 ∧ JoinOk a ys.reverse = true ∧ Q (.str (Txt.join a ys.reverse)) H2
theorem strs_of {ys : List Str} : ∀ {its : List Value}, Vals (ys.map V.str) its → ∃ l : List (Str × Tok), its = strValues l ∧ l.map (·.1) = ys := by
  induction ys with
  | nil =>
    intro its r
    cases r
    exact ⟨[], rfl, rfl⟩
  | cons y ys ih =>
    intro its r
    cases r with
    | cons ry rr =>
      obtain ⟨t, rfl⟩ := ry
      obtain ⟨l, rfl, e⟩ := ih rr
      exact ⟨(y, t) :: l, rfl, by rw [List.map_cons, e]⟩
theorem pe_joinRev {o e : Expr} {to : TE} {ta : TA} {apos pos p pos2 : Pos} (hc : X.calm = true) (ho : PE X o to) (hg : Gl X "reversed") (hm : X.mg "reversed" = none) (ha : PA X [e] ta)
    (hs1 : starEach [.Call (.Name "reversed" p) [e] [] pos2] X.env = [(false, eval (.Call (.Name "reversed" p) [e] [] pos2) X.env)] := by rfl) (hs : starEach [e] X.env = [(false, eval e X.env)] := by rfl)
    (hbase : attributeBase o "join" X.env (eval o X.env) = eval o X.env := by rfl) (hline : (apos.endLine == pos.line) = true := by rfl) :
    PE X (.Call (.Attribute o "join" apos) [.Call (.Name "reversed" p) [e] [] pos2] [] pos) (tJoinRev X.K to ta) := by
  refine ⟨fun pins s σ H Q I h => ?_⟩
  refine PySem.Call_method1 hbase hs1 hline (thn (ho.run pins s σ H _ I h) ?_)
  rintro v s1 ⟨x, H1, I1, r1, ⟨a, rfl⟩, q1⟩
  obtain ⟨t, rfl⟩ := _root_.id r1
  refine ⟨"str", _, PySem.F.plainAttrs_str, PySem.F.slot_str_join, PySem.F.type_str_join, typeIs_str _ _ _, (fun _ e => nomatch e), Calls.callWith_builtin rfl (Calls.evalArgs_plain (Calls.spliced_cons ?_))⟩
  refine wpAny_Call_Name_kw (ld_blt I1 hg hm PyProof.Rows.boot_reversed ?_)
  refine PyProof.Rows.callWith_type1 (thn (ha.run pos2 pins s1 σ H1 _ I1 q1) ?_) hs rfl
  rintro us s2 ⟨vs, H2, I2, r2, a', q, ys, ea, rfl, hq, hl, hok, hQ⟩
  cases ea
  cases r2 with
  | cons r rr =>
    cases rr
    cases r
    obtain ⟨its, rv, pl, _⟩ := I2.list hq
    obtain ⟨l, rfl, el⟩ := strs_of rv
    have hll : l.length = ys.length := by rw [← el, List.length_map]
    have hok' : JoinOk a (l.reverse.map (·.1)) = true := by rw [List.map_reverse, el]; exact hok
    refine wpAny_mono (join_rev (x := a) (t := t) (Q := EP X pins σ Q) (E := X.xe) (I2.ok.hd hc) pl.isList (by omega) hok' fun h' t' k hk => ⟨.str _, H2, I2.kept (t' := k) hk, ⟨t', by rw [List.map_reverse, el]⟩, hQ⟩) (fun v s4 h4 => Calls.spliced_nil h4) fun _ _ z => z
end
end Kin

set_option maxHeartbeats 4000000
/-! list(zip(a, b, c, d)), four lists of one length -/
namespace Kin
open PySem PySem.Spec PyProof.Rows L2
/-! ### the zip object of four list iterators: its cells are c 0 .. c 6 (the iterators, the tuple of them, the tuple it owns, itself) -/
abbrev IsT4 (h : Heap) (T : Addr) (a1 a2 a3 a4 : Value) : Prop := h.get? T = some { cls := .type "tuple", data := .seq #[a1, a2, a3, a4] }
structure Z4 (c : Nat → Addr) (l1 l2 l3 l4 : Addr) (i : Nat) (h : Heap) : Prop where
  ti : IsT4 h (c 4) (.ref (c 0)) (.ref (c 1)) (.ref (c 2)) (.ref (c 3))
  to : ∃ a1 a2 a3 a4, IsT4 h (c 5) a1 a2 a3 a4
  i1 : h.IsListIter (c 0) l1 i
  i2 : h.IsListIter (c 1) l2 i
  i3 : h.IsListIter (c 2) l3 i
  i4 : h.IsListIter (c 3) l4 i
/-- the four lists -/
structure L4 (l1 l2 l3 l4 : Addr) (y1 y2 y3 y4 : Array Value) (h : Heap) : Prop where
  l1 : h.IsList l1 y1
  l2 : h.IsList l2 y2
  l3 : h.IsList l3 y3
  l4 : h.IsList l4 y4
/-- the cells are all different, and none is one of the lists -/
structure Sep (c : Nat → Addr) (l1 l2 l3 l4 : Addr) : Prop where
  ne : ∀ a b, a ≠ b → c a ≠ c b
  n1 : ∀ a, l1 ≠ c a
  n2 : ∀ a, l2 ≠ c a
  n3 : ∀ a, l3 ≠ c a
  n4 : ∀ a, l4 ≠ c a
/-- the heap, but for the zip's own cells -/
def Kept (c : Nat → Addr) (h h' : Heap) : Prop := ∀ b o, (∀ a, a < 7 → b ≠ c a) → h.get? b = some o → h'.get? b = some o
section
variable {prog : Program} {w : World} {A : Around} {E : Value → Shared → Prop} {s : Shared} {c : Nat → Addr} {l1 l2 l3 l4 : Addr} {y1 y2 y3 y4 : Array Value} {i : Nat}
theorem upd4 {T : Addr} {a1 a2 a3 a4 x : Value} {k : Nat} {Q : Unit → Shared → Prop} (hT : IsT4 s.heap T a1 a2 a3 a4)
    (h : ∀ h', h'.get? T = some { cls := .type "tuple", data := .seq ((#[a1, a2, a3, a4] : Array Value).setIfInBounds k x) } → Heap.SameBut T s.heap h' → Q () { s with heap := h' }) :
    wpAny (model prog w) A (updateSeq T (·.setIfInBounds k x)) Q E s := by
  refine wpAny_updateSeq hT rfl (h _ ?_ (Heap.SameBut.update ..))
  rw [Heap.get?_update_self _ hT rfl]
  simp [Obj.mapSeq]
theorem next4_item {x1 x2 x3 x4 : Value} {Q : Value → Shared → Prop} (S : Sep c l1 l2 l3 l4) (hz : IsZip s.heap (c 6) (c 4) (c 5) .none) (Z : Z4 c l1 l2 l3 l4 i s.heap) (L : L4 l1 l2 l3 l4 y1 y2 y3 y4 s.heap) (e1 : y1[i]? = some x1) (e2 : y2[i]? = some x2) (e3 : y3[i]? = some x3) (e4 : y4[i]? = some x4)
    (hQ : ∀ h' tk, IsZipHeld h' (c 6) (c 4) (c 5) s.heap.objs.size false → Z4 c l1 l2 l3 l4 (i + 1) h' → IsT4 h' s.heap.objs.size x1 x2 x3 x4 →
      h'.objs.size = s.heap.objs.size + 1 → Kept c s.heap h' → Q (.ref s.heap.objs.size) { s with heap := h', toks := tk }) :
    wpAny (model prog w) A (Builtin.«zip.__next__» ⟨[.ref (c 6)], []⟩) (fun fin s' => ∃ v, fin = .done (.ret v) ∧ Q v s') E s := by
  obtain ⟨hp, g, d, tk0, os⟩ := s
  obtain ⟨hTI, ⟨a1, a2, a3, a4, hTO⟩, hi1, hi2, hi3, hi4⟩ := Z
  obtain ⟨hl1, hl2, hl3, hl4⟩ := L
  have hz : IsZip hp (c 6) (c 4) (c 5) .none := hz
  have hTI : IsT4 hp (c 4) (.ref (c 0)) (.ref (c 1)) (.ref (c 2)) (.ref (c 3)) := hTI
  have hTO : IsT4 hp (c 5) a1 a2 a3 a4 := hTO
  show wpAny _ _ (field (.ref (c 6)) 2 >>= _) _ _ _
  refine wpAny_bind (wpAny_field hz rfl (x := .bool false) rfl ?_)
  show wpAny _ _ (field (.ref (c 6)) 3 >>= _) _ _ _
  refine wpAny_bind (wpAny_field hz rfl (x := .ref (c 4)) rfl ?_)
  refine wpAny_bind (wpAny_seqItems hTI rfl ?_)
  show wpAny _ _ (Builtin.SmallTypes.ownedTupleIsFree (.ref (c 6)) >>= _) _ _ _
  refine wpAny_bind ?_
  unfold Builtin.SmallTypes.ownedTupleIsFree
  refine wpAny_bind (wpAny_field hz rfl (x := .none) rfl (wpAny_pure ?_))
  simp only [if_true]
  refine wpAny_bind (wpAny_rule ?_)
  refine wpAny_bind (wpAny_field hz rfl (x := .ref (c 5)) rfl ?_)
  refine wpAny_bind (wpAny_setField_rec hz (by simp) fun g0 hz0 hs0 => ?_)
  replace hz0 : IsZip g0 (c 6) (c 4) (c 5) .ellipsis := hz0
  replace hs0 : Heap.SameBut (c 6) hp g0 := hs0
  have hTO0 : IsT4 g0 (c 5) a1 a2 a3 a4 := (hs0.2 _ (S.ne _ _ (by decide))).trans hTO
  have hi1_0 : g0.IsListIter (c 0) l1 i := hi1.at fun o q => (hs0.2 _ (S.ne _ _ (by decide))).trans q
  have hl1_0 : g0.IsList l1 y1 := hl1.at fun o q => (hs0.2 _ (S.n1 _)).trans q
  have hi2_0 : g0.IsListIter (c 1) l2 i := hi2.at fun o q => (hs0.2 _ (S.ne _ _ (by decide))).trans q
  have hl2_0 : g0.IsList l2 y2 := hl2.at fun o q => (hs0.2 _ (S.n2 _)).trans q
  have hi3_0 : g0.IsListIter (c 2) l3 i := hi3.at fun o q => (hs0.2 _ (S.ne _ _ (by decide))).trans q
  have hl3_0 : g0.IsList l3 y3 := hl3.at fun o q => (hs0.2 _ (S.n3 _)).trans q
  have hi4_0 : g0.IsListIter (c 3) l4 i := hi4.at fun o q => (hs0.2 _ (S.ne _ _ (by decide))).trans q
  have hl4_0 : g0.IsList l4 y4 := hl4.at fun o q => (hs0.2 _ (S.n4 _)).trans q
  have hsz0 : g0.objs.size = hp.objs.size := hs0.1
  have hk0 : Kept c hp g0 := fun b o hb q => (hs0.2 b (hb 6 (by decide))).trans q
  have hti0 : IsT4 g0 (c 4) (.ref (c 0)) (.ref (c 1)) (.ref (c 2)) (.ref (c 3)) := (hs0.2 _ (S.ne _ _ (by decide))).trans hTI
  clear hs0 hz hTI hTO
  refine wpAny_bind ?_
  simp only [List.zipIdx_cons, List.zipIdx_nil, List.forIn_cons, List.forIn_nil]
  -- the iterator 1
  refine wpAny_bind (wpAny_bind (wpAny_onRaise ?_))
  show wpAny _ _ (Builtin.SmallTypes.nextOf (.ref (c 0)) >>= _) _ _ ⟨g0, g, d, tk0, os⟩
  refine wpAny_bind (wpAny_nextOf_list_item (s := ⟨g0, g, d, tk0, os⟩) hi1_0 hl1_0 e1 fun q1 hi1_q hs1 => wpAny_pure ?_)
  replace hs1 : Heap.SameBut (c 0) g0 q1 := hs1
  have hU1 : IsT4 q1 (c 5) a1 a2 a3 a4 := (hs1.2 _ (S.ne _ _ (by decide))).trans hTO0
  refine wpAny_bind (wpAny_seqItems (s := ⟨q1, g, d, tk0, os⟩) hU1 rfl ?_)
  refine wpAny_bind (upd4 (s := ⟨q1, g, d, tk0, os⟩) hU1 fun g1 hTO1 hr1 => ?_)
  replace hTO1 : IsT4 g1 (c 5) x1 a2 a3 a4 := hTO1
  replace hr1 : Heap.SameBut (c 5) q1 g1 := hr1
  have hz1 : IsZip g1 (c 6) (c 4) (c 5) .ellipsis := (hr1.2 _ (S.ne _ _ (by decide))).trans ((hs1.2 _ (S.ne _ _ (by decide))).trans hz0)
  have hsz1 : g1.objs.size = hp.objs.size := by rw [hr1.1, hs1.1, hsz0]
  have hk1 : Kept c hp g1 := fun b o hb q => (hr1.2 b (hb 5 (by decide))).trans ((hs1.2 b (hb 0 (by decide))).trans (hk0 b o hb q))
  have hi1_1 : g1.IsListIter (c 0) l1 (i + 1) := hi1_q.at fun o q => (hr1.2 _ (S.ne _ _ (by decide))).trans q
  have hi2_1 : g1.IsListIter (c 1) l2 i := hi2_0.at fun o q => (hr1.2 _ (S.ne _ _ (by decide))).trans ((hs1.2 _ (S.ne _ _ (by decide))).trans q)
  have hl2_1 : g1.IsList l2 y2 := hl2_0.at fun o q => (hr1.2 _ (S.n2 _)).trans ((hs1.2 _ (S.n2 _)).trans q)
  have hi3_1 : g1.IsListIter (c 2) l3 i := hi3_0.at fun o q => (hr1.2 _ (S.ne _ _ (by decide))).trans ((hs1.2 _ (S.ne _ _ (by decide))).trans q)
  have hl3_1 : g1.IsList l3 y3 := hl3_0.at fun o q => (hr1.2 _ (S.n3 _)).trans ((hs1.2 _ (S.n3 _)).trans q)
  have hi4_1 : g1.IsListIter (c 3) l4 i := hi4_0.at fun o q => (hr1.2 _ (S.ne _ _ (by decide))).trans ((hs1.2 _ (S.ne _ _ (by decide))).trans q)
  have hl4_1 : g1.IsList l4 y4 := hl4_0.at fun o q => (hr1.2 _ (S.n4 _)).trans ((hs1.2 _ (S.n4 _)).trans q)
  have hti1 : IsT4 g1 (c 4) (.ref (c 0)) (.ref (c 1)) (.ref (c 2)) (.ref (c 3)) := (hr1.2 _ (S.ne _ _ (by decide))).trans ((hs1.2 _ (S.ne _ _ (by decide))).trans hti0)
  clear hs1 hr1 hU1 hz0 hk0 hsz0 hTO0
  refine wpAny_bind (wpAny_letGo (wpAny_pure ?_))
  -- the iterator 2
  refine wpAny_bind (wpAny_bind (wpAny_onRaise ?_))
  show wpAny _ _ (Builtin.SmallTypes.nextOf (.ref (c 1)) >>= _) _ _ ⟨g1, g, d, tk0, os⟩
  refine wpAny_bind (wpAny_nextOf_list_item (s := ⟨g1, g, d, tk0, os⟩) hi2_1 hl2_1 e2 fun q2 hi2_q hs2 => wpAny_pure ?_)
  replace hs2 : Heap.SameBut (c 1) g1 q2 := hs2
  have hU2 : IsT4 q2 (c 5) x1 a2 a3 a4 := (hs2.2 _ (S.ne _ _ (by decide))).trans hTO1
  refine wpAny_bind (wpAny_seqItems (s := ⟨q2, g, d, tk0, os⟩) hU2 rfl ?_)
  refine wpAny_bind (upd4 (s := ⟨q2, g, d, tk0, os⟩) hU2 fun g2 hTO2 hr2 => ?_)
  replace hTO2 : IsT4 g2 (c 5) x1 x2 a3 a4 := hTO2
  replace hr2 : Heap.SameBut (c 5) q2 g2 := hr2
  have hz2 : IsZip g2 (c 6) (c 4) (c 5) .ellipsis := (hr2.2 _ (S.ne _ _ (by decide))).trans ((hs2.2 _ (S.ne _ _ (by decide))).trans hz1)
  have hsz2 : g2.objs.size = hp.objs.size := by rw [hr2.1, hs2.1, hsz1]
  have hk2 : Kept c hp g2 := fun b o hb q => (hr2.2 b (hb 5 (by decide))).trans ((hs2.2 b (hb 1 (by decide))).trans (hk1 b o hb q))
  have hi1_2 : g2.IsListIter (c 0) l1 (i + 1) := hi1_1.at fun o q => (hr2.2 _ (S.ne _ _ (by decide))).trans ((hs2.2 _ (S.ne _ _ (by decide))).trans q)
  have hi2_2 : g2.IsListIter (c 1) l2 (i + 1) := hi2_q.at fun o q => (hr2.2 _ (S.ne _ _ (by decide))).trans q
  have hi3_2 : g2.IsListIter (c 2) l3 i := hi3_1.at fun o q => (hr2.2 _ (S.ne _ _ (by decide))).trans ((hs2.2 _ (S.ne _ _ (by decide))).trans q)
  have hl3_2 : g2.IsList l3 y3 := hl3_1.at fun o q => (hr2.2 _ (S.n3 _)).trans ((hs2.2 _ (S.n3 _)).trans q)
  have hi4_2 : g2.IsListIter (c 3) l4 i := hi4_1.at fun o q => (hr2.2 _ (S.ne _ _ (by decide))).trans ((hs2.2 _ (S.ne _ _ (by decide))).trans q)
  have hl4_2 : g2.IsList l4 y4 := hl4_1.at fun o q => (hr2.2 _ (S.n4 _)).trans ((hs2.2 _ (S.n4 _)).trans q)
  have hti2 : IsT4 g2 (c 4) (.ref (c 0)) (.ref (c 1)) (.ref (c 2)) (.ref (c 3)) := (hr2.2 _ (S.ne _ _ (by decide))).trans ((hs2.2 _ (S.ne _ _ (by decide))).trans hti1)
  clear hs2 hr2 hU2 hz1 hk1 hsz1 hTO1
  refine wpAny_bind (wpAny_letGo (wpAny_pure ?_))
  -- the iterator 3
  refine wpAny_bind (wpAny_bind (wpAny_onRaise ?_))
  show wpAny _ _ (Builtin.SmallTypes.nextOf (.ref (c 2)) >>= _) _ _ ⟨g2, g, d, tk0, os⟩
  refine wpAny_bind (wpAny_nextOf_list_item (s := ⟨g2, g, d, tk0, os⟩) hi3_2 hl3_2 e3 fun q3 hi3_q hs3 => wpAny_pure ?_)
  replace hs3 : Heap.SameBut (c 2) g2 q3 := hs3
  have hU3 : IsT4 q3 (c 5) x1 x2 a3 a4 := (hs3.2 _ (S.ne _ _ (by decide))).trans hTO2
  refine wpAny_bind (wpAny_seqItems (s := ⟨q3, g, d, tk0, os⟩) hU3 rfl ?_)
  refine wpAny_bind (upd4 (s := ⟨q3, g, d, tk0, os⟩) hU3 fun g3 hTO3 hr3 => ?_)
  replace hTO3 : IsT4 g3 (c 5) x1 x2 x3 a4 := hTO3
  replace hr3 : Heap.SameBut (c 5) q3 g3 := hr3
  have hz3 : IsZip g3 (c 6) (c 4) (c 5) .ellipsis := (hr3.2 _ (S.ne _ _ (by decide))).trans ((hs3.2 _ (S.ne _ _ (by decide))).trans hz2)
  have hsz3 : g3.objs.size = hp.objs.size := by rw [hr3.1, hs3.1, hsz2]
  have hk3 : Kept c hp g3 := fun b o hb q => (hr3.2 b (hb 5 (by decide))).trans ((hs3.2 b (hb 2 (by decide))).trans (hk2 b o hb q))
  have hi1_3 : g3.IsListIter (c 0) l1 (i + 1) := hi1_2.at fun o q => (hr3.2 _ (S.ne _ _ (by decide))).trans ((hs3.2 _ (S.ne _ _ (by decide))).trans q)
  have hi2_3 : g3.IsListIter (c 1) l2 (i + 1) := hi2_2.at fun o q => (hr3.2 _ (S.ne _ _ (by decide))).trans ((hs3.2 _ (S.ne _ _ (by decide))).trans q)
  have hi3_3 : g3.IsListIter (c 2) l3 (i + 1) := hi3_q.at fun o q => (hr3.2 _ (S.ne _ _ (by decide))).trans q
  have hi4_3 : g3.IsListIter (c 3) l4 i := hi4_2.at fun o q => (hr3.2 _ (S.ne _ _ (by decide))).trans ((hs3.2 _ (S.ne _ _ (by decide))).trans q)
  have hl4_3 : g3.IsList l4 y4 := hl4_2.at fun o q => (hr3.2 _ (S.n4 _)).trans ((hs3.2 _ (S.n4 _)).trans q)
  have hti3 : IsT4 g3 (c 4) (.ref (c 0)) (.ref (c 1)) (.ref (c 2)) (.ref (c 3)) := (hr3.2 _ (S.ne _ _ (by decide))).trans ((hs3.2 _ (S.ne _ _ (by decide))).trans hti2)
  clear hs3 hr3 hU3 hz2 hk2 hsz2 hTO2
  refine wpAny_bind (wpAny_letGo (wpAny_pure ?_))
  -- the iterator 4
  refine wpAny_bind (wpAny_bind (wpAny_onRaise ?_))
  show wpAny _ _ (Builtin.SmallTypes.nextOf (.ref (c 3)) >>= _) _ _ ⟨g3, g, d, tk0, os⟩
  refine wpAny_bind (wpAny_nextOf_list_item (s := ⟨g3, g, d, tk0, os⟩) hi4_3 hl4_3 e4 fun q4 hi4_q hs4 => wpAny_pure ?_)
  replace hs4 : Heap.SameBut (c 3) g3 q4 := hs4
  have hU4 : IsT4 q4 (c 5) x1 x2 x3 a4 := (hs4.2 _ (S.ne _ _ (by decide))).trans hTO3
  refine wpAny_bind (wpAny_seqItems (s := ⟨q4, g, d, tk0, os⟩) hU4 rfl ?_)
  refine wpAny_bind (upd4 (s := ⟨q4, g, d, tk0, os⟩) hU4 fun g4 hTO4 hr4 => ?_)
  replace hTO4 : IsT4 g4 (c 5) x1 x2 x3 x4 := hTO4
  replace hr4 : Heap.SameBut (c 5) q4 g4 := hr4
  have hz4 : IsZip g4 (c 6) (c 4) (c 5) .ellipsis := (hr4.2 _ (S.ne _ _ (by decide))).trans ((hs4.2 _ (S.ne _ _ (by decide))).trans hz3)
  have hsz4 : g4.objs.size = hp.objs.size := by rw [hr4.1, hs4.1, hsz3]
  have hk4 : Kept c hp g4 := fun b o hb q => (hr4.2 b (hb 5 (by decide))).trans ((hs4.2 b (hb 3 (by decide))).trans (hk3 b o hb q))
  have hi1_4 : g4.IsListIter (c 0) l1 (i + 1) := hi1_3.at fun o q => (hr4.2 _ (S.ne _ _ (by decide))).trans ((hs4.2 _ (S.ne _ _ (by decide))).trans q)
  have hi2_4 : g4.IsListIter (c 1) l2 (i + 1) := hi2_3.at fun o q => (hr4.2 _ (S.ne _ _ (by decide))).trans ((hs4.2 _ (S.ne _ _ (by decide))).trans q)
  have hi3_4 : g4.IsListIter (c 2) l3 (i + 1) := hi3_3.at fun o q => (hr4.2 _ (S.ne _ _ (by decide))).trans ((hs4.2 _ (S.ne _ _ (by decide))).trans q)
  have hi4_4 : g4.IsListIter (c 3) l4 (i + 1) := hi4_q.at fun o q => (hr4.2 _ (S.ne _ _ (by decide))).trans q
  have hti4 : IsT4 g4 (c 4) (.ref (c 0)) (.ref (c 1)) (.ref (c 2)) (.ref (c 3)) := (hr4.2 _ (S.ne _ _ (by decide))).trans ((hs4.2 _ (S.ne _ _ (by decide))).trans hti3)
  clear hs4 hr4 hU4 hz3 hk3 hsz3 hTO3
  refine wpAny_bind (wpAny_letGo (wpAny_pure (wpAny_pure ?_)))
  refine wpAny_bind (wpAny_seqItems (s := ⟨g4, g, d, tk0, os⟩) hTO4 rfl ?_)
  refine wpAny_bind (wpAny_newTuple ?_)
  have hzlt : c 6 < g4.objs.size := Heap.lt_size hz4
  show wpAny _ _ (Builtin.SmallTypes.ownedTupleHandOut (.ref (c 6)) (.ref g4.objs.size) >>= _) _ _ ⟨g4.push { cls := .type "tuple", data := .seq #[x1, x2, x3, x4] }, g, d, tk0, os⟩
  refine wpAny_bind ?_
  unfold Builtin.SmallTypes.ownedTupleHandOut
  have hz5 : IsZip (g4.push { cls := .type "tuple", data := .seq #[x1, x2, x3, x4] }) (c 6) (c 4) (c 5) .ellipsis := Heap.get?_push_of_some _ hz4
  refine wpAny_bind (wpAny_setField_rec hz5 (by simp) fun h7 hz7 hs7 => ?_)
  replace hz7 : IsZip h7 (c 6) (c 4) (c 5) (rawInt g4.objs.size) := hz7
  refine wpAny_setField_rec hz7 (by simp) fun h8 hz8 hs8 => ?_
  replace hz8 : IsZip h8 (c 6) (c 4) (c 5) (rawInt g4.objs.size) := hz8
  replace hs7 : Heap.SameBut (c 6) (g4.push { cls := .type "tuple", data := .seq #[x1, x2, x3, x4] }) h7 := hs7
  replace hs8 : Heap.SameBut (c 6) h7 h8 := hs8
  have up : ∀ b o, b ≠ c 6 → g4.get? b = some o → h8.get? b = some o := fun b o hb q => (hs8.2 b hb).trans ((hs7.2 b hb).trans (Heap.get?_push_of_some _ q))
  have hT8 : IsT4 h8 g4.objs.size x1 x2 x3 x4 := (hs8.2 _ (Nat.ne_of_gt hzlt)).trans ((hs7.2 _ (Nat.ne_of_gt hzlt)).trans (Heap.get?_push_size _ rfl))
  have hn8 : h8.objs.size = g4.objs.size + 1 := by rw [hs8.1, hs7.1, Heap.size_push]
  rw [hsz4] at hz8 hT8 hn8
  refine wpAny_pure ⟨_, rfl, ?_⟩
  show Q (.ref g4.objs.size) ⟨h8, g, d, tk0, os⟩
  rw [hsz4]
  exact hQ h8 tk0 hz8 ⟨up _ _ (S.ne _ _ (by decide)) hti4, ⟨x1, x2, x3, x4, up _ _ (S.ne _ _ (by decide)) hTO4⟩, hi1_4.at fun o q => up _ _ (S.ne _ _ (by decide)) q, hi2_4.at fun o q => up _ _ (S.ne _ _ (by decide)) q, hi3_4.at fun o q => up _ _ (S.ne _ _ (by decide)) q, hi4_4.at fun o q => up _ _ (S.ne _ _ (by decide)) q⟩
    hT8 hn8 fun b o hb q => up b o (hb 6 (by decide)) (hk4 b o hb q)
theorem next4_end {Q : Fin → Shared → Prop} (hh : A.handled = none) (S : Sep c l1 l2 l3 l4) (hz : IsZip s.heap (c 6) (c 4) (c 5) .none) (Z : Z4 c l1 l2 l3 l4 i s.heap) (hl1 : s.heap.IsList l1 y1) (e1 : y1[i]? = none)
    (hE : ∀ h' tk e, Kept c s.heap h' → (∃ o, h'.get? e = some o ∧ o.cls = .type "StopIteration") → E (.ref e) { s with heap := h', toks := tk }) :
    wpAny (model prog w) A (Builtin.«zip.__next__» ⟨[.ref (c 6)], []⟩) Q E s := by
  obtain ⟨hp, g, d, tk0, os⟩ := s
  obtain ⟨hTI, ⟨a1, a2, a3, a4, hTO⟩, hi1, _, _, _⟩ := Z
  have hz : IsZip hp (c 6) (c 4) (c 5) .none := hz
  have hTI : IsT4 hp (c 4) (.ref (c 0)) (.ref (c 1)) (.ref (c 2)) (.ref (c 3)) := hTI
  show wpAny _ _ (field (.ref (c 6)) 2 >>= _) _ _ _
  refine wpAny_bind (wpAny_field hz rfl (x := .bool false) rfl ?_)
  show wpAny _ _ (field (.ref (c 6)) 3 >>= _) _ _ _
  refine wpAny_bind (wpAny_field hz rfl (x := .ref (c 4)) rfl ?_)
  refine wpAny_bind (wpAny_seqItems hTI rfl ?_)
  show wpAny _ _ (Builtin.SmallTypes.ownedTupleIsFree (.ref (c 6)) >>= _) _ _ _
  refine wpAny_bind ?_
  unfold Builtin.SmallTypes.ownedTupleIsFree
  refine wpAny_bind (wpAny_field hz rfl (x := .none) rfl (wpAny_pure ?_))
  simp only [if_true]
  refine wpAny_bind (wpAny_rule ?_)
  refine wpAny_bind (wpAny_field hz rfl (x := .ref (c 5)) rfl ?_)
  refine wpAny_bind (wpAny_setField_rec hz (by simp) fun g0 hz0 hs0 => ?_)
  replace hz0 : IsZip g0 (c 6) (c 4) (c 5) .ellipsis := hz0
  replace hs0 : Heap.SameBut (c 6) hp g0 := hs0
  have hi1' : g0.IsListIter (c 0) l1 i := hi1.at fun o q => (hs0.2 _ (S.ne _ _ (by decide))).trans q
  have hl1' : g0.IsList l1 y1 := hl1.at fun o q => (hs0.2 _ (S.n1 _)).trans q
  refine wpAny_bind ?_
  simp only [List.zipIdx_cons, List.zipIdx_nil, List.forIn_cons, List.forIn_nil]
  refine wpAny_bind (wpAny_bind (wpAny_onRaise ?_))
  show wpAny _ _ (Builtin.SmallTypes.nextOf (.ref (c 0)) >>= _) _ _ ⟨g0, g, d, tk0, os⟩
  refine wpAny_bind (wpAny_nextOf_list_end (s := ⟨g0, g, d, tk0, os⟩) hh hi1' hl1' e1 fun q e hq he => ?_)
  replace hq : Heap.ExtBut (c 0) g0 q := hq
  obtain ⟨oe, hoe, hce⟩ := he
  have hzq : IsZip q (c 6) (c 4) (c 5) .ellipsis := hq _ _ (S.ne _ _ (by decide)) hz0
  have hez : e ≠ c 6 := fun x => by subst x; rw [hzq] at hoe; cases hoe; simp at hce
  refine wpAny_setField_rec (s := ⟨q, g, d, tk0, os⟩) hzq (by simp) fun q' _ hq' => ?_
  replace hq' : Heap.SameBut (c 6) q q' := hq'
  exact hE q' tk0 e (fun b o hb x => (hq'.2 b (hb 6 (by decide))).trans (hq _ _ (hb 0 (by decide)) ((hs0.2 b (hb 6 (by decide))).trans x))) ⟨oe, (hq'.2 e hez).trans hoe, hce⟩
theorem next4_held {T : Addr} {f : Bool} {oT : Obj} {x1 x2 x3 x4 : Value} {Q : Value → Shared → Prop} (S : Sep c l1 l2 l3 l4) (hz : IsZipHeld s.heap (c 6) (c 4) (c 5) T f) (hT : s.heap.get? T = some oT) (Z : Z4 c l1 l2 l3 l4 i s.heap)
    (L : L4 l1 l2 l3 l4 y1 y2 y3 y4 s.heap) (e1 : y1[i]? = some x1) (e2 : y2[i]? = some x2) (e3 : y3[i]? = some x3) (e4 : y4[i]? = some x4)
    (hQ : ∀ h', IsZipHeld h' (c 6) (c 4) (c 5) T true → Z4 c l1 l2 l3 l4 (i + 1) h' → IsT4 h' s.heap.objs.size x1 x2 x3 x4 → h'.objs.size = s.heap.objs.size + 1 → Kept c s.heap h' → Q (.ref s.heap.objs.size) { s with heap := h' }) :
    wpAny (model prog w) A (Builtin.«zip.__next__» ⟨[.ref (c 6)], []⟩) (fun fin s' => ∃ v, fin = .done (.ret v) ∧ Q v s') E s := by
  obtain ⟨hp, g, d, tk0, os⟩ := s
  obtain ⟨hTI, ⟨a1, a2, a3, a4, hTO⟩, hi1, hi2, hi3, hi4⟩ := Z
  obtain ⟨hl1, hl2, hl3, hl4⟩ := L
  have hz : IsZipHeld hp (c 6) (c 4) (c 5) T f := hz
  have hTI : IsT4 hp (c 4) (.ref (c 0)) (.ref (c 1)) (.ref (c 2)) (.ref (c 3)) := hTI
  have hTO : IsT4 hp (c 5) a1 a2 a3 a4 := hTO
  show wpAny _ _ (field (.ref (c 6)) 2 >>= _) _ _ _
  refine wpAny_bind (wpAny_field hz rfl (x := .bool false) rfl ?_)
  show wpAny _ _ (field (.ref (c 6)) 3 >>= _) _ _ _
  refine wpAny_bind (wpAny_field hz rfl (x := .ref (c 4)) rfl ?_)
  refine wpAny_bind (wpAny_seqItems hTI rfl ?_)
  show wpAny _ _ (Builtin.SmallTypes.ownedTupleIsFree (.ref (c 6)) >>= _) _ _ _
  refine wpAny_bind (wpAny_tupleHeld_zip hz hT fun g0 hz0 hs0 => ?_)
  replace hs0 : Heap.SameBut (c 6) hp g0 := hs0
  have hTO0 : IsT4 g0 (c 5) a1 a2 a3 a4 := (hs0.2 _ (S.ne _ _ (by decide))).trans hTO
  have hti0 : IsT4 g0 (c 4) (.ref (c 0)) (.ref (c 1)) (.ref (c 2)) (.ref (c 3)) := (hs0.2 _ (S.ne _ _ (by decide))).trans hTI
  have hi1_0 : g0.IsListIter (c 0) l1 i := hi1.at fun o q => (hs0.2 _ (S.ne _ _ (by decide))).trans q
  have hl1_0 : g0.IsList l1 y1 := hl1.at fun o q => (hs0.2 _ (S.n1 _)).trans q
  have hi2_0 : g0.IsListIter (c 1) l2 i := hi2.at fun o q => (hs0.2 _ (S.ne _ _ (by decide))).trans q
  have hl2_0 : g0.IsList l2 y2 := hl2.at fun o q => (hs0.2 _ (S.n2 _)).trans q
  have hi3_0 : g0.IsListIter (c 2) l3 i := hi3.at fun o q => (hs0.2 _ (S.ne _ _ (by decide))).trans q
  have hl3_0 : g0.IsList l3 y3 := hl3.at fun o q => (hs0.2 _ (S.n3 _)).trans q
  have hi4_0 : g0.IsListIter (c 3) l4 i := hi4.at fun o q => (hs0.2 _ (S.ne _ _ (by decide))).trans q
  have hl4_0 : g0.IsList l4 y4 := hl4.at fun o q => (hs0.2 _ (S.n4 _)).trans q
  have hsz0 : g0.objs.size = hp.objs.size := hs0.1
  have hk0 : Kept c hp g0 := fun b o hb q => (hs0.2 b (hb 6 (by decide))).trans q
  clear hs0 hz hTI hTO
  simp only [Bool.false_eq_true, if_false]
  refine wpAny_bind ?_
  rw [← Array.forIn_toList]
  simp only [List.forIn_cons, List.forIn_nil]
  -- the iterator 1
  refine wpAny_bind (wpAny_bind (wpAny_holding ?_))
  show wpAny _ _ (Builtin.SmallTypes.nextOf (.ref (c 0)) >>= _) _ _ _
  refine wpAny_bind (wpAny_nextOf_list_item (s := ⟨g0, g, d, tk0, os⟩) hi1_0 hl1_0 e1 fun g1 hi1_1 hs1 => wpAny_pure ?_)
  refine wpAny_pure ?_
  replace hs1 : Heap.SameBut (c 0) g0 g1 := hs1
  have hTO1 : IsT4 g1 (c 5) a1 a2 a3 a4 := (hs1.2 _ (S.ne _ _ (by decide))).trans hTO0
  have hti1 : IsT4 g1 (c 4) (.ref (c 0)) (.ref (c 1)) (.ref (c 2)) (.ref (c 3)) := (hs1.2 _ (S.ne _ _ (by decide))).trans hti0
  have hz1 : IsZipHeld g1 (c 6) (c 4) (c 5) T true := (hs1.2 _ (S.ne _ _ (by decide))).trans hz0
  have hsz1 : g1.objs.size = hp.objs.size := by rw [hs1.1, hsz0]
  have hk1 : Kept c hp g1 := fun b o hb q => (hs1.2 b (hb 0 (by decide))).trans (hk0 b o hb q)
  have hi2_1 : g1.IsListIter (c 1) l2 i := hi2_0.at fun o q => (hs1.2 _ (S.ne _ _ (by decide))).trans q
  have hl2_1 : g1.IsList l2 y2 := hl2_0.at fun o q => (hs1.2 _ (S.n2 _)).trans q
  have hi3_1 : g1.IsListIter (c 2) l3 i := hi3_0.at fun o q => (hs1.2 _ (S.ne _ _ (by decide))).trans q
  have hl3_1 : g1.IsList l3 y3 := hl3_0.at fun o q => (hs1.2 _ (S.n3 _)).trans q
  have hi4_1 : g1.IsListIter (c 3) l4 i := hi4_0.at fun o q => (hs1.2 _ (S.ne _ _ (by decide))).trans q
  have hl4_1 : g1.IsList l4 y4 := hl4_0.at fun o q => (hs1.2 _ (S.n4 _)).trans q
  clear hs1 hz0 hk0 hsz0 hTO0 hti0
  -- the iterator 2
  refine wpAny_bind (wpAny_bind (wpAny_holding ?_))
  show wpAny _ _ (Builtin.SmallTypes.nextOf (.ref (c 1)) >>= _) _ _ _
  refine wpAny_bind (wpAny_nextOf_list_item (s := ⟨g1, g, d, tk0, os⟩) hi2_1 hl2_1 e2 fun g2 hi2_2 hs2 => wpAny_pure ?_)
  refine wpAny_pure ?_
  replace hs2 : Heap.SameBut (c 1) g1 g2 := hs2
  have hTO2 : IsT4 g2 (c 5) a1 a2 a3 a4 := (hs2.2 _ (S.ne _ _ (by decide))).trans hTO1
  have hti2 : IsT4 g2 (c 4) (.ref (c 0)) (.ref (c 1)) (.ref (c 2)) (.ref (c 3)) := (hs2.2 _ (S.ne _ _ (by decide))).trans hti1
  have hz2 : IsZipHeld g2 (c 6) (c 4) (c 5) T true := (hs2.2 _ (S.ne _ _ (by decide))).trans hz1
  have hsz2 : g2.objs.size = hp.objs.size := by rw [hs2.1, hsz1]
  have hk2 : Kept c hp g2 := fun b o hb q => (hs2.2 b (hb 1 (by decide))).trans (hk1 b o hb q)
  have hi1_2 : g2.IsListIter (c 0) l1 (i + 1) := hi1_1.at fun o q => (hs2.2 _ (S.ne _ _ (by decide))).trans q
  have hi3_2 : g2.IsListIter (c 2) l3 i := hi3_1.at fun o q => (hs2.2 _ (S.ne _ _ (by decide))).trans q
  have hl3_2 : g2.IsList l3 y3 := hl3_1.at fun o q => (hs2.2 _ (S.n3 _)).trans q
  have hi4_2 : g2.IsListIter (c 3) l4 i := hi4_1.at fun o q => (hs2.2 _ (S.ne _ _ (by decide))).trans q
  have hl4_2 : g2.IsList l4 y4 := hl4_1.at fun o q => (hs2.2 _ (S.n4 _)).trans q
  clear hs2 hz1 hk1 hsz1 hTO1 hti1
  -- the iterator 3
  refine wpAny_bind (wpAny_bind (wpAny_holding ?_))
  show wpAny _ _ (Builtin.SmallTypes.nextOf (.ref (c 2)) >>= _) _ _ _
  refine wpAny_bind (wpAny_nextOf_list_item (s := ⟨g2, g, d, tk0, os⟩) hi3_2 hl3_2 e3 fun g3 hi3_3 hs3 => wpAny_pure ?_)
  refine wpAny_pure ?_
  replace hs3 : Heap.SameBut (c 2) g2 g3 := hs3
  have hTO3 : IsT4 g3 (c 5) a1 a2 a3 a4 := (hs3.2 _ (S.ne _ _ (by decide))).trans hTO2
  have hti3 : IsT4 g3 (c 4) (.ref (c 0)) (.ref (c 1)) (.ref (c 2)) (.ref (c 3)) := (hs3.2 _ (S.ne _ _ (by decide))).trans hti2
  have hz3 : IsZipHeld g3 (c 6) (c 4) (c 5) T true := (hs3.2 _ (S.ne _ _ (by decide))).trans hz2
  have hsz3 : g3.objs.size = hp.objs.size := by rw [hs3.1, hsz2]
  have hk3 : Kept c hp g3 := fun b o hb q => (hs3.2 b (hb 2 (by decide))).trans (hk2 b o hb q)
  have hi1_3 : g3.IsListIter (c 0) l1 (i + 1) := hi1_2.at fun o q => (hs3.2 _ (S.ne _ _ (by decide))).trans q
  have hi2_3 : g3.IsListIter (c 1) l2 (i + 1) := hi2_2.at fun o q => (hs3.2 _ (S.ne _ _ (by decide))).trans q
  have hi4_3 : g3.IsListIter (c 3) l4 i := hi4_2.at fun o q => (hs3.2 _ (S.ne _ _ (by decide))).trans q
  have hl4_3 : g3.IsList l4 y4 := hl4_2.at fun o q => (hs3.2 _ (S.n4 _)).trans q
  clear hs3 hz2 hk2 hsz2 hTO2 hti2
  -- the iterator 4
  refine wpAny_bind (wpAny_bind (wpAny_holding ?_))
  show wpAny _ _ (Builtin.SmallTypes.nextOf (.ref (c 3)) >>= _) _ _ _
  refine wpAny_bind (wpAny_nextOf_list_item (s := ⟨g3, g, d, tk0, os⟩) hi4_3 hl4_3 e4 fun g4 hi4_4 hs4 => wpAny_pure ?_)
  refine wpAny_pure (wpAny_pure ?_)
  replace hs4 : Heap.SameBut (c 3) g3 g4 := hs4
  have hTO4 : IsT4 g4 (c 5) a1 a2 a3 a4 := (hs4.2 _ (S.ne _ _ (by decide))).trans hTO3
  have hti4 : IsT4 g4 (c 4) (.ref (c 0)) (.ref (c 1)) (.ref (c 2)) (.ref (c 3)) := (hs4.2 _ (S.ne _ _ (by decide))).trans hti3
  have hz4 : IsZipHeld g4 (c 6) (c 4) (c 5) T true := (hs4.2 _ (S.ne _ _ (by decide))).trans hz3
  have hsz4 : g4.objs.size = hp.objs.size := by rw [hs4.1, hsz3]
  have hk4 : Kept c hp g4 := fun b o hb q => (hs4.2 b (hb 3 (by decide))).trans (hk3 b o hb q)
  have hi1_4 : g4.IsListIter (c 0) l1 (i + 1) := hi1_3.at fun o q => (hs4.2 _ (S.ne _ _ (by decide))).trans q
  have hi2_4 : g4.IsListIter (c 1) l2 (i + 1) := hi2_3.at fun o q => (hs4.2 _ (S.ne _ _ (by decide))).trans q
  have hi3_4 : g4.IsListIter (c 2) l3 (i + 1) := hi3_3.at fun o q => (hs4.2 _ (S.ne _ _ (by decide))).trans q
  clear hs4 hz3 hk3 hsz3 hTO3 hti3
  show wpAny _ _ (newTuple [x1, x2, x3, x4] >>= _) _ _ _
  refine wpAny_bind (wpAny_newTuple ?_)
  refine wpAny_pure ⟨_, rfl, ?_⟩
  show Q (.ref g4.objs.size) _
  have up : ∀ b o, g4.get? b = some o → (g4.push { cls := .type "tuple", data := .seq #[x1, x2, x3, x4] }).get? b = some o := fun b o q => Heap.get?_push_of_some _ q
  have hT8 : IsT4 (g4.push { cls := .type "tuple", data := .seq #[x1, x2, x3, x4] }) g4.objs.size x1 x2 x3 x4 := Heap.get?_push_size _ rfl
  have hn8 : (g4.push { cls := .type "tuple", data := .seq #[x1, x2, x3, x4] }).objs.size = g4.objs.size + 1 := Heap.size_push ..
  rw [hsz4] at hT8 hn8 ⊢
  exact hQ _ (up _ _ hz4) ⟨up _ _ hti4, ⟨a1, a2, a3, a4, up _ _ hTO4⟩, hi1_4.at fun o q => up _ _ q, hi2_4.at fun o q => up _ _ q, hi3_4.at fun o q => up _ _ q, hi4_4.at fun o q => up _ _ q⟩ hT8 hn8 fun b o hb q => up b o (hk4 b o hb q)
theorem end4_held {T : Addr} {f : Bool} {oT : Obj} {Q : Fin → Shared → Prop} (hh : A.handled = none) (S : Sep c l1 l2 l3 l4) (hz : IsZipHeld s.heap (c 6) (c 4) (c 5) T f) (hT : s.heap.get? T = some oT) (Z : Z4 c l1 l2 l3 l4 i s.heap)
    (hl1 : s.heap.IsList l1 y1) (e1 : y1[i]? = none)
    (hE : ∀ h' e, Kept c s.heap h' → (∃ o, h'.get? e = some o ∧ o.cls = .type "StopIteration") → E (.ref e) { s with heap := h' }) :
    wpAny (model prog w) A (Builtin.«zip.__next__» ⟨[.ref (c 6)], []⟩) Q E s := by
  obtain ⟨hTI, _, hi1, _, _, _⟩ := Z
  show wpAny _ _ (field (.ref (c 6)) 2 >>= _) _ _ _
  refine wpAny_bind (wpAny_field hz rfl (x := .bool false) rfl ?_)
  show wpAny _ _ (field (.ref (c 6)) 3 >>= _) _ _ _
  refine wpAny_bind (wpAny_field hz rfl (x := .ref (c 4)) rfl ?_)
  refine wpAny_bind (wpAny_seqItems hTI rfl ?_)
  show wpAny _ _ (Builtin.SmallTypes.ownedTupleIsFree (.ref (c 6)) >>= _) _ _ _
  refine wpAny_bind (wpAny_tupleHeld_zip hz hT fun g0 hz0 hs0 => ?_)
  simp only [Bool.false_eq_true, if_false]
  refine wpAny_bind ?_
  rw [← Array.forIn_toList]
  simp only [List.forIn_cons, List.forIn_nil]
  refine wpAny_bind (wpAny_bind (wpAny_holding ?_))
  show wpAny _ _ (Builtin.SmallTypes.nextOf (.ref (c 0)) >>= _) _ _ _
  refine wpAny_bind (wpAny_nextOf_list_end (s := { s with heap := g0 }) hh (hi1.at fun o q => (hs0.2 _ (S.ne _ _ (by decide))).trans q) (hl1.at fun o q => (hs0.2 _ (S.n1 _)).trans q) e1 fun h2 e hs2 he => ?_)
  exact hE h2 e (fun b o hb q => hs2 _ _ (hb 0 (by decide)) ((hs0.2 b (hb 6 (by decide))).trans q)) he
end
end Kin

set_option maxHeartbeats 4000000
namespace Kin
open PySem PySem.Spec PyProof.Rows L2
theorem nolen_zip : typeLookup (.type "zip") "__len__" = pure none := by rw [typeLookup_type, builtinLookup_eq_fast]; kernel_rfl
theorem nohint_zip : typeLookup (.type "zip") "__length_hint__" = pure none := by rw [typeLookup_type, builtinLookup_eq_fast]; kernel_rfl
/-- what the zip knows of the first tuple that it gave out -/
def Zout (c : Nat → Addr) (h : Heap) : List Addr → Prop
  | [] => IsZip h (c 6) (c 4) (c 5) .none
  | T :: _ => ∃ f, IsZipHeld h (c 6) (c 4) (c 5) T f
/-- the tuples made so far -/
structure Rows4 (c : Nat → Addr) (N D : Addr) (y1 y2 y3 y4 : Array Value) (Ts : List Addr) (h : Heap) : Prop where
  nd : Ts.Nodup
  at_ : ∀ (j : Nat) (T : Addr), Ts[j]? = some T → N ≤ T ∧ T ≠ D ∧ (∀ a, a < 7 → T ≠ c a) ∧ ∃ x1 x2 x3 x4, y1[j]? = some x1 ∧ y2[j]? = some x2 ∧ y3[j]? = some x3 ∧ y4[j]? = some x4 ∧ IsT4 h T x1 x2 x3 x4
theorem Rows4.lt {c : Nat → Addr} {N D : Addr} {y1 y2 y3 y4 : Array Value} {Ts : List Addr} {h : Heap} (r : Rows4 c N D y1 y2 y3 y4 Ts h) {T : Addr} (m : T ∈ Ts) : T < h.objs.size := by
  obtain ⟨j, hj⟩ := List.getElem?_of_mem m
  obtain ⟨_, _, _, _, _, _, _, _, _, _, _, e⟩ := r.at_ j T hj
  exact Heap.lt_size e
section
variable {prog : Program} {w : World} {A : Around} {E : Value → Shared → Prop} {c : Nat → Addr} {l1 l2 l3 l4 : Addr} {y1 y2 y3 y4 : Array Value} {R : Result → Shared → Prop}
/-- one more tuple -/
theorem pyNext4 {s : Shared} {N D : Addr} {Ts : List Addr} {i : Nat} {x1 x2 x3 x4 : Value} {Q : Option Value → Shared → Prop} (S : Sep c l1 l2 l3 l4) (Z : Z4 c l1 l2 l3 l4 i s.heap) (O : Zout c s.heap Ts) (W : Rows4 c N D y1 y2 y3 y4 Ts s.heap) (L : L4 l1 l2 l3 l4 y1 y2 y3 y4 s.heap)
    (e1 : y1[i]? = some x1) (e2 : y2[i]? = some x2) (e3 : y3[i]? = some x3) (e4 : y4[i]? = some x4)
    (hQ : ∀ h' tk, Z4 c l1 l2 l3 l4 (i + 1) h' → Zout c h' (Ts ++ [s.heap.objs.size]) → IsT4 h' s.heap.objs.size x1 x2 x3 x4 → h'.objs.size = s.heap.objs.size + 1 → Kept c s.heap h' → Q (some (.ref s.heap.objs.size)) { s with heap := h', toks := tk }) :
    wpAny (model prog w) A (pyNext (.ref (c 6))) Q E s := by
  cases Ts with
  | nil =>
    have hz : IsZip s.heap (c 6) (c 4) (c 5) .none := O
    have hT : s.TypeIs (.ref (c 6)) "zip" := ⟨_, hz, rfl⟩
    unfold pyNext
    exact wpAny_bind (wpAny_attempt (wpAny_callSpecial?_slot (name := Str.ofString "__next__") hT PySem.F.slot_zip_next
      (wpAny_call_entry PySem.F.slot_zip_next hT PySem.F.entry_zip_next (next4_item S hz Z L e1 e2 e3 e4 fun h' tk a1 a2 a3 a4 a5 => wpAny_pure (hQ h' tk a2 ⟨_, a1⟩ a3 a4 a5)) (PySem.F.args_zip_next_1 _))))
  | cons T r =>
    obtain ⟨f, hz⟩ := (show ∃ f, IsZipHeld s.heap (c 6) (c 4) (c 5) T f from O)
    have hT : s.TypeIs (.ref (c 6)) "zip" := ⟨_, hz, rfl⟩
    obtain ⟨_, _, _, _, _, _, _, _, _, _, _, hT0⟩ := W.at_ 0 T rfl
    unfold pyNext
    exact wpAny_bind (wpAny_attempt (wpAny_callSpecial?_slot (name := Str.ofString "__next__") hT PySem.F.slot_zip_next
      (wpAny_call_entry PySem.F.slot_zip_next hT PySem.F.entry_zip_next (next4_held S hz hT0 Z L e1 e2 e3 e4 fun h' a1 a2 a3 a4 a5 => wpAny_pure (hQ h' s.toks a2 ⟨_, a1⟩ a3 a4 a5)) (PySem.F.args_zip_next_1 _))))
/-- no more -/
theorem pyNext4_end {s : Shared} {N D : Addr} {Ts : List Addr} {i : Nat} {Q : Option Value → Shared → Prop} (hh : A.handled = none) (S : Sep c l1 l2 l3 l4) (Z : Z4 c l1 l2 l3 l4 i s.heap) (O : Zout c s.heap Ts) (W : Rows4 c N D y1 y2 y3 y4 Ts s.heap) (L : L4 l1 l2 l3 l4 y1 y2 y3 y4 s.heap)
    (e1 : y1[i]? = none) (hQ : ∀ h' tk, Kept c s.heap h' → Q none { s with heap := h', toks := tk }) :
    wpAny (model prog w) A (pyNext (.ref (c 6))) Q E s := by
  cases Ts with
  | nil =>
    have hz : IsZip s.heap (c 6) (c 4) (c 5) .none := O
    have hT : s.TypeIs (.ref (c 6)) "zip" := ⟨_, hz, rfl⟩
    unfold pyNext
    refine wpAny_bind (wpAny_attempt (wpAny_callSpecial?_slot (name := Str.ofString "__next__") hT PySem.F.slot_zip_next
      (wpAny_call_entry PySem.F.slot_zip_next hT PySem.F.entry_zip_next (next4_end hh S hz Z L.l1 e1 fun h' tk e hk he => ?_) (PySem.F.args_zip_next_1 _))))
    obtain ⟨o, ho, hc⟩ := he
    exact wpAny_bind (wpAny_isInstance (T := "StopIteration") (b := true) ⟨o, ho, hc⟩ isSubtype_stop (wpAny_pure (hQ _ _ hk)))
  | cons T r =>
    obtain ⟨f, hz⟩ := (show ∃ f, IsZipHeld s.heap (c 6) (c 4) (c 5) T f from O)
    have hT : s.TypeIs (.ref (c 6)) "zip" := ⟨_, hz, rfl⟩
    obtain ⟨_, _, _, _, _, _, _, _, _, _, _, hT0⟩ := W.at_ 0 T rfl
    unfold pyNext
    refine wpAny_bind (wpAny_attempt (wpAny_callSpecial?_slot (name := Str.ofString "__next__") hT PySem.F.slot_zip_next
      (wpAny_call_entry PySem.F.slot_zip_next hT PySem.F.entry_zip_next (end4_held hh S hz hT0 Z L.l1 e1 fun h' e hk he => ?_) (PySem.F.args_zip_next_1 _))))
    obtain ⟨o, ho, hc⟩ := he
    exact wpAny_bind (wpAny_isInstance (T := "StopIteration") (b := true) ⟨o, ho, hc⟩ isSubtype_stop (wpAny_pure (hQ _ s.toks hk)))
/-- the list that is filled -/
abbrev Fill (h : Heap) (D : Addr) (Ts : List Addr) : Prop := ∃ cap, h.get? D = some { cls := .type "list", dict := none, data := .seq (Ts.map Value.ref).toArray cap, slots := #[] }
/-- what stands behind the loop -/
structure Done4 (c : Nat → Addr) (N D : Addr) (y1 y2 y3 y4 : Array Value) (s s' : Shared) (Ts : List Addr) : Prop where
  len : Ts.length = y1.size
  lst : Fill s'.heap D Ts
  rows : Rows4 c N D y1 y2 y3 y4 Ts s'.heap
  old : ∀ b o, b < N → s.heap.get? b = some o → s'.heap.get? b = some o
  gens : s'.gens = s.gens
  drawn : s'.drawn = s.drawn
  os : s'.os = s.os
theorem loop4 (hh : A.handled = none) (S : Sep c l1 l2 l3 l4) {N D : Addr} {res : Value} (hc : ∀ a, N ≤ c a) (hD : N ≤ D) (hDc : ∀ a, a < 7 → D ≠ c a) (h1 : l1 < N) (h2 : l2 < N) (h3 : l3 < N) (h4 : l4 < N) (z2 : y2.size = y1.size) (z3 : y3.size = y1.size) (z4 : y4.size = y1.size) (hz : y1.size ≤ 1000000) :
    ∀ (k i : Nat) (s : Shared) (Ts : List Addr), y1.size - i = k → i ≤ y1.size → Ts.length = i → Fill s.heap D Ts → Z4 c l1 l2 l3 l4 i s.heap → Zout c s.heap Ts → Rows4 c N D y1 y2 y3 y4 Ts s.heap → L4 l1 l2 l3 l4 y1 y2 y3 y4 s.heap → D < s.heap.objs.size →
      (∀ s' Ts', Done4 c N D y1 y2 y3 y4 s s' Ts' → R (.ok (.ret res)) s') → codeAny (model prog w) A (.builtin "list.extend.loop" ⟨[.ref D, .ref (c 6), res], []⟩) R s := by
  have hsl := sizeLine_eq
  intro k
  induction k with
  | zero =>
    intro i s Ts hk hi hT hF Z O W L hDs hR
    have hin : i = y1.size := by omega
    refine codeAny_builtin PySem.F.entry_extend_loop ?_
    rw [Around.under_plainId PySem.F.plain_extend_loop _]
    show wpAny _ A.in1 (pyNext (.ref (c 6)) >>= _) _ _ s
    refine wpAny_bind (pyNext4_end hh S Z O W L (by simp [hin]) fun h' tk hk => ?_)
    have out : ∀ b o, (∀ a, a < 7 → b ≠ c a) → s.heap.get? b = some o → h'.get? b = some o := fun b o hb q => hk b o hb q
    refine wpAny_pure (hR _ Ts ⟨by omega, ?_, ⟨W.nd, fun j T e => ?_⟩, fun b o hb q => out b o (fun a _ => Nat.ne_of_lt (Nat.lt_of_lt_of_le hb (hc a))) q, rfl, rfl, rfl⟩)
    · obtain ⟨cap, e⟩ := hF
      exact ⟨cap, out _ _ hDc e⟩
    · obtain ⟨q1, q2, q3, u1, u2, u3, u4, w1, w2, w3, w4, q4⟩ := W.at_ j T e
      exact ⟨q1, q2, q3, u1, u2, u3, u4, w1, w2, w3, w4, hk _ _ q3 q4⟩
  | succ k ih =>
    intro i s Ts hk hi hT hF Z O W L hDs hR
    have hlt : i < y1.size := by omega
    refine codeAny_builtin PySem.F.entry_extend_loop ?_
    rw [Around.under_plainId PySem.F.plain_extend_loop _]
    show wpAny _ A.in1 (pyNext (.ref (c 6)) >>= _) _ _ s
    have e1 : y1[i]? = some y1[i] := by simp [hlt]
    have e2 : y2[i]? = some (y2[i]'(by omega)) := by simp
    have e3 : y3[i]? = some (y3[i]'(by omega)) := by simp
    have e4 : y4[i]? = some (y4[i]'(by omega)) := by simp
    refine wpAny_bind (pyNext4 S Z O W L e1 e2 e3 e4 fun h' tk Z' O' hT' hsz hkp => ?_)
    obtain ⟨cap, hF⟩ := hF
    have hF' : h'.get? D = some { cls := .type "list", dict := none, data := .seq (Ts.map Value.ref).toArray cap, slots := #[] } := hkp _ _ hDc hF
    show wpAny _ A.in1 (updateSeq D (·.push (.ref s.heap.objs.size)) >>= _) _ _ _
    refine wpAny_bind ?_
    have hgs : (Ts.map Value.ref).toArray.size = i := by simp [hT]
    refine wpAny_updateSeq hF' rfl (wpAny_pure ⟨plainId_quiet PySem.F.plain_extend_loop _, ?_⟩) (by rw [hgs]; omega) (by show ((Ts.map Value.ref).toArray.push (.ref s.heap.objs.size)).size ≤ sizeLine + 1; rw [Array.size_push, hgs]; omega)
    have oth : ∀ b o, b ≠ D → h'.get? b = some o → (h'.update D (Obj.mapSeq (·.push (.ref s.heap.objs.size)))).get? b = some o := fun b o hb q => (Heap.get?_update_other _ _ (Ne.symm hb)).trans q
    have hself := Heap.get?_update_self (Obj.mapSeq (·.push (Value.ref s.heap.objs.size))) hF' rfl
    have hns : ∀ a, a < 7 → s.heap.objs.size ≠ c a := by
      intro a ha e
      have z0 : c a < s.heap.objs.size := by
        have hzz : ∃ o, s.heap.get? (c 6) = some o := by
          cases Ts with
          | nil => exact ⟨_, (show IsZip s.heap (c 6) (c 4) (c 5) .none from O)⟩
          | cons T r =>
            obtain ⟨f, q⟩ := (show ∃ f, IsZipHeld s.heap (c 6) (c 4) (c 5) T f from O)
            exact ⟨_, q⟩
        obtain ⟨oz, hzz⟩ := hzz
        obtain ⟨b1, b2, b3, b4, hto⟩ := Z.to
        obtain ⟨o1, g1, _⟩ := Z.i1
        obtain ⟨o2, g2, _⟩ := Z.i2
        obtain ⟨o3, g3, _⟩ := Z.i3
        obtain ⟨o4, g4, _⟩ := Z.i4
        match a, ha with
        | 0, _ => exact Heap.lt_size g1
        | 1, _ => exact Heap.lt_size g2
        | 2, _ => exact Heap.lt_size g3
        | 3, _ => exact Heap.lt_size g4
        | 4, _ => exact Heap.lt_size Z.ti
        | 5, _ => exact Heap.lt_size hto
        | 6, _ => exact Heap.lt_size hzz
      rw [← e] at z0
      exact Nat.lt_irrefl _ z0
    have hFill : Fill (h'.update D (Obj.mapSeq (·.push (.ref s.heap.objs.size)))) D (Ts ++ [s.heap.objs.size]) := by
      have e : ((Ts.map Value.ref).toArray.push (Value.ref s.heap.objs.size)) = ((Ts ++ [s.heap.objs.size]).map Value.ref).toArray := by simp
      show ∃ cap, Heap.get? _ D = some { cls := .type "list", dict := none, data := .seq ((Ts ++ [s.heap.objs.size]).map Value.ref).toArray cap, slots := #[] }
      rw [← e]
      exact ⟨_, hself⟩
    refine ih (i + 1) _ (Ts ++ [s.heap.objs.size]) (by omega) hlt (by rw [List.length_append, hT]; rfl) hFill ?_ ?_ ⟨?_, ?_⟩ ?_ ?_ fun s' Ts' d => hR s' Ts' ⟨d.len, d.lst, d.rows, fun b o hb q => d.old b o hb ?_, d.gens, d.drawn, d.os⟩
    · obtain ⟨q1, ⟨b1, b2, b3, b4, q2⟩, q3, q4, q5, q6⟩ := Z'
      exact ⟨oth _ _ (Ne.symm (hDc 4 (by decide))) q1, ⟨b1, b2, b3, b4, oth _ _ (Ne.symm (hDc 5 (by decide))) q2⟩, q3.at fun o q => oth _ _ (Ne.symm (hDc 0 (by decide))) q, q4.at fun o q => oth _ _ (Ne.symm (hDc 1 (by decide))) q, q5.at fun o q => oth _ _ (Ne.symm (hDc 2 (by decide))) q, q6.at fun o q => oth _ _ (Ne.symm (hDc 3 (by decide))) q⟩
    · cases Ts with
      | nil =>
        obtain ⟨f, q⟩ := (show ∃ f, IsZipHeld h' (c 6) (c 4) (c 5) s.heap.objs.size f from O')
        exact ⟨f, oth _ _ (Ne.symm (hDc 6 (by decide))) q⟩
      | cons T r =>
        obtain ⟨f, q⟩ := (show ∃ f, IsZipHeld h' (c 6) (c 4) (c 5) T f from O')
        exact ⟨f, oth _ _ (Ne.symm (hDc 6 (by decide))) q⟩
    · rw [List.nodup_append]
      refine ⟨W.nd, by simp, fun a ha b hb => ?_⟩
      rw [List.mem_singleton.mp hb]
      exact Nat.ne_of_lt (W.lt ha)
    · intro j T e
      by_cases hj : j < Ts.length
      · rw [List.getElem?_append_left hj] at e
        obtain ⟨q1, q2, q3, u1, u2, u3, u4, w1, w2, w3, w4, q4⟩ := W.at_ j T e
        exact ⟨q1, q2, q3, u1, u2, u3, u4, w1, w2, w3, w4, oth _ _ q2 (hkp _ _ q3 q4)⟩
      · have ej : j = i := by
          have := (List.getElem?_eq_some_iff.mp e).1
          rw [List.length_append] at this
          simp at this
          omega
        subst ej
        rw [List.getElem?_append_right (by omega), hT, Nat.sub_self] at e
        cases e
        exact ⟨Nat.le_of_lt (Nat.lt_of_le_of_lt hD hDs), Nat.ne_of_gt hDs, hns, _, _, _, _, e1, e2, e3, e4, oth _ _ (Nat.ne_of_gt hDs) hT'⟩
    · obtain ⟨q1, q2, q3, q4⟩ := L
      have kl : ∀ {l : Addr} {ys : Array Value}, l < N → s.heap.IsList l ys → (h'.update D (Obj.mapSeq (·.push (.ref s.heap.objs.size)))).IsList l ys := fun hl q => q.at fun o e => oth _ _ (Nat.ne_of_lt (Nat.lt_of_lt_of_le hl hD)) (hkp _ _ (fun a _ => Nat.ne_of_lt (Nat.lt_of_lt_of_le hl (hc a))) e)
      exact ⟨kl h1 q1, kl h2 q2, kl h3 q3, kl h4 q4⟩
    · have : (h'.update D (Obj.mapSeq (·.push (.ref s.heap.objs.size)))).objs.size = h'.objs.size := Heap.size_update ..
      show D < (h'.update D (Obj.mapSeq (·.push (.ref s.heap.objs.size)))).objs.size
      rw [this, hsz]
      exact Nat.lt_succ_of_lt hDs
    · exact oth _ _ (Nat.ne_of_lt (Nat.lt_of_lt_of_le hb hD)) (hkp _ _ (fun a _ => Nat.ne_of_lt (Nat.lt_of_lt_of_le hb (hc a))) q)
/-- D.extend(the zip), D new -/
theorem extend4 {s : Shared} {N D : Addr} {res : Value} {cap : Nat} (hh : A.handled = none) (S : Sep c l1 l2 l3 l4) (hc : ∀ a, N ≤ c a) (hD : N ≤ D) (hDc : ∀ a, a < 7 → D ≠ c a) (h1 : l1 < N) (h2 : l2 < N) (h3 : l3 < N) (h4 : l4 < N) (z2 : y2.size = y1.size) (z3 : y3.size = y1.size)
    (z4 : y4.size = y1.size) (hz : y1.size ≤ 1000000) (hF : s.heap.get? D = some { cls := .type "list", dict := none, data := .seq #[] cap, slots := #[] }) (Z : Z4 c l1 l2 l3 l4 0 s.heap) (O : IsZip s.heap (c 6) (c 4) (c 5) .none) (L : L4 l1 l2 l3 l4 y1 y2 y3 y4 s.heap)
    (hR : ∀ s' Ts', Done4 c N D y1 y2 y3 y4 s s' Ts' → R (.ok (.ret res)) s') :
    wpAny (model prog w) A.in1 (Builtin.List.listExtendWith (.ref D) (.ref (c 6)) res)
      (fun fin s' => match fin with | .done f => R (.ok f) s' | .again c' => c'.quiet = true ∧ codeAny (model prog w) A c' R s') (fun e s' => R (.error e) s') s := by
  have hT : s.TypeIs (.ref (c 6)) "zip" := ⟨_, O, rfl⟩
  unfold Builtin.List.listExtendWith
  refine wpAny_bind (wpAny_typeOf hT ?_)
  have a1 : Builtin.List.listSameRef (.ref D) (.ref (c 6)) = false := by simp [Builtin.List.listSameRef, hDc 6 (by decide)]
  have a2 : (Value.type "zip" == Value.type "list") = false := by decide
  have a3 : (Value.type "zip" == Value.type "tuple") = false := by decide
  simp only [a1, a2, a3, Bool.or_false, Bool.false_eq_true, if_false]
  refine wpAny_bind (wpAny_pyIter_zip O ?_)
  refine wpAny_bind (wpAny_holding ?_)
  unfold Builtin.List.listLengthHint
  refine wpAny_bind (wpAny_specialOf hT nolen_zip ?_)
  show wpAny _ A.in1 (specialOf (Value.ref (c 6)) (Str.ofString "__length_hint__") >>= _) _ _ _
  refine wpAny_bind (wpAny_specialOf hT nohint_zip ?_)
  refine wpAny_pure ?_
  show wpAny _ A.in1 (rule "list.extend.makes-room" >>= fun _ => Builtin.List.listTouch (.ref D) >>= fun _ => again (.builtin "list.extend.loop" ⟨[.ref D, .ref (c 6), res], []⟩)) _ _ _
  refine wpAny_bind (wpAny_rule (wpAny_bind ?_))
  show wpAny _ A.in1 (updateSeq D (·.push .none) >>= fun _ => updateSeq D (·.pop)) _ _ _
  refine wpAny_bind (wpAny_updateSeq hF rfl ?_)
  have f2 := Heap.get?_update_self (Obj.mapSeq (·.push Value.none)) hF rfl
  refine wpAny_updateSeq (hz := by seq_fits) f2 rfl ?_
  have f3 := Heap.get?_update_self (Obj.mapSeq (·.pop)) f2 rfl
  have oth : ∀ b o, b ≠ D → s.heap.get? b = some o → ((s.heap.update D (Obj.mapSeq (·.push Value.none))).update D (Obj.mapSeq (·.pop))).get? b = some o :=
    fun b o hb q => (Heap.get?_update_other _ _ (Ne.symm hb)).trans ((Heap.get?_update_other _ _ (Ne.symm hb)).trans q)
  have hs : ((s.heap.update D (Obj.mapSeq (·.push Value.none))).update D (Obj.mapSeq (·.pop))).objs.size = s.heap.objs.size := (Heap.size_update ..).trans (Heap.size_update ..)
  refine wpAny_pure ⟨plainId_quiet PySem.F.plain_extend_loop _, loop4 hh S hc hD hDc h1 h2 h3 h4 z2 z3 z4 hz _ 0 _ [] rfl (Nat.zero_le _) rfl ⟨_, f3⟩ ?_ (oth _ _ (Ne.symm (hDc 6 (by decide))) O) ⟨List.nodup_nil, fun j T e => by simp at e⟩ ?_ ?_ fun s' Ts' d => hR s' Ts' ⟨d.len, d.lst, d.rows, fun b o hb q => d.old b o hb (oth _ _ (Nat.ne_of_lt (Nat.lt_of_lt_of_le hb hD)) q), d.gens, d.drawn, d.os⟩⟩
  · obtain ⟨q1, ⟨b1, b2, b3, b4, q2⟩, q3, q4, q5, q6⟩ := Z
    exact ⟨oth _ _ (Ne.symm (hDc 4 (by decide))) q1, ⟨b1, b2, b3, b4, oth _ _ (Ne.symm (hDc 5 (by decide))) q2⟩, q3.at fun o q => oth _ _ (Ne.symm (hDc 0 (by decide))) q, q4.at fun o q => oth _ _ (Ne.symm (hDc 1 (by decide))) q, q5.at fun o q => oth _ _ (Ne.symm (hDc 2 (by decide))) q, q6.at fun o q => oth _ _ (Ne.symm (hDc 3 (by decide))) q⟩
  · obtain ⟨q1, q2, q3, q4⟩ := L
    have kl : ∀ {l : Addr} {ys : Array Value}, l < N → s.heap.IsList l ys → ((s.heap.update D (Obj.mapSeq (·.push Value.none))).update D (Obj.mapSeq (·.pop))).IsList l ys := fun hl q => q.at fun o e => oth _ _ (Nat.ne_of_lt (Nat.lt_of_lt_of_le hl hD)) e
    exact ⟨kl h1 q1, kl h2 q2, kl h3 q3, kl h4 q4⟩
  · show D < ((s.heap.update D (Obj.mapSeq (·.push Value.none))).update D (Obj.mapSeq (·.pop))).objs.size
    rw [hs]
    exact Heap.lt_size hF
end
section
variable {prog : Program} {w : World} {A : Around} {E : Value → Shared → Prop} {l1 l2 l3 l4 : Addr} {y1 y2 y3 y4 : Array Value}
/-- list(the zip) -/
theorem call_list4 {s : Shared} {c : Nat → Addr} {N : Addr} {Q : Value → Shared → Prop} (hh : A.handled = none) (S : Sep c l1 l2 l3 l4) (hc : ∀ a, N ≤ c a) (hcs : ∀ a, a < 7 → c a < s.heap.objs.size) (h1 : l1 < N) (h2 : l2 < N) (h3 : l3 < N) (h4 : l4 < N) (z2 : y2.size = y1.size)
    (z3 : y3.size = y1.size) (z4 : y4.size = y1.size) (hz : y1.size ≤ 1000000) (hN : N ≤ s.heap.objs.size) (Z : Z4 c l1 l2 l3 l4 0 s.heap) (O : IsZip s.heap (c 6) (c 4) (c 5) .none) (L : L4 l1 l2 l3 l4 y1 y2 y3 y4 s.heap)
    (hQ : ∀ s' D Ts', N ≤ D → Done4 c N D y1 y2 y3 y4 s s' Ts' → Q (.ref D) s') : wpAny (model prog w) A (call (.type "list") [.ref (c 6)]) Q E s := by
  refine callType_codes (Q₁ := fun obj s₁ => obj = .ref s.heap.objs.size ∧ s₁ = { s with heap := s.heap.push { cls := .type "list", data := .seq #[] } }) PySem.F.called_list (PySem.F.typeCall_list_1 _) PySem.F.entry_list_init
    (code_list_new _ ⟨rfl, rfl⟩) fun obj s₁ e => ?_
  obtain ⟨rfl, rfl⟩ := e
  have up : ∀ b o, s.heap.get? b = some o → (s.heap.push { cls := .type "list", data := .seq #[] }).get? b = some o := fun b o q => Heap.get?_push_of_some _ q
  have f0 : (s.heap.push { cls := .type "list", data := .seq #[] }).get? s.heap.objs.size = some { cls := .type "list", data := .seq #[] } := Heap.get?_push_size _ rfl
  refine ⟨⟨_, f0, rfl⟩, PySem.F.args_list_init_2 _ _, ?_⟩
  show wpAny _ _ (do let old ← Builtin.List.listItems (.ref s.heap.objs.size); Builtin.List.listUpdate (.ref s.heap.objs.size) (fun _ => #[]); letGo old.toList.reverse; Builtin.List.listExtendWith (.ref s.heap.objs.size) (.ref (c 6)) .none) _ _ _
  refine wpAny_bind ?_
  unfold Builtin.List.listItems
  refine wpAny_bind (wpAny_seqItems f0 rfl (wpAny_pure ?_))
  show wpAny _ _ (updateSeq s.heap.objs.size (fun _ => #[]) >>= fun _ => letGo (#[] : Array Value).toList.reverse >>= fun _ => Builtin.List.listExtendWith (.ref s.heap.objs.size) (.ref (c 6)) .none) _ _ _
  refine wpAny_bind (wpAny_updateSeq f0 rfl ?_)
  have f1 := Heap.get?_update_self (Obj.mapSeq (fun _ => (#[] : Array Value))) f0 rfl
  have oth : ∀ b o, b ≠ s.heap.objs.size → s.heap.get? b = some o → ((s.heap.push { cls := .type "list", data := .seq #[] }).update s.heap.objs.size (Obj.mapSeq (fun _ => (#[] : Array Value)))).get? b = some o :=
    fun b o hb q => (Heap.get?_update_other _ _ (Ne.symm hb)).trans (up b o q)
  have hDc : ∀ a, a < 7 → s.heap.objs.size ≠ c a := fun a ha => Nat.ne_of_gt (hcs a ha)
  refine wpAny_bind (wpAny_letGo ?_)
  refine extend4 (s := { s with heap := (s.heap.push { cls := .type "list", data := .seq #[] }).update s.heap.objs.size (Obj.mapSeq (fun _ => (#[] : Array Value))) }) hh S hc hN hDc h1 h2 h3 h4 z2 z3 z4 hz f1 ?_ (oth _ _ (Ne.symm (hDc 6 (by decide))) O) ?_
    fun s' Ts' d => ⟨rfl, hQ s' _ Ts' hN ⟨d.len, d.lst, d.rows, fun b o hb q => d.old b o hb (oth _ _ (Nat.ne_of_lt (Nat.lt_of_lt_of_le hb hN)) q), d.gens, d.drawn, d.os⟩⟩
  · obtain ⟨q1, ⟨b1, b2, b3, b4, q2⟩, q3, q4, q5, q6⟩ := Z
    exact ⟨oth _ _ (Ne.symm (hDc 4 (by decide))) q1, ⟨b1, b2, b3, b4, oth _ _ (Ne.symm (hDc 5 (by decide))) q2⟩, q3.at fun o q => oth _ _ (Ne.symm (hDc 0 (by decide))) q, q4.at fun o q => oth _ _ (Ne.symm (hDc 1 (by decide))) q, q5.at fun o q => oth _ _ (Ne.symm (hDc 2 (by decide))) q, q6.at fun o q => oth _ _ (Ne.symm (hDc 3 (by decide))) q⟩
  · obtain ⟨q1, q2, q3, q4⟩ := L
    exact ⟨q1.at fun o e => oth _ _ (Nat.ne_of_lt (Nat.lt_of_lt_of_le h1 hN)) e, q2.at fun o e => oth _ _ (Nat.ne_of_lt (Nat.lt_of_lt_of_le h2 hN)) e, q3.at fun o e => oth _ _ (Nat.ne_of_lt (Nat.lt_of_lt_of_le h3 hN)) e, q4.at fun o e => oth _ _ (Nat.ne_of_lt (Nat.lt_of_lt_of_le h4 hN)) e⟩
end
end Kin

set_option maxHeartbeats 4000000
namespace Kin
open PySem PySem.Spec PyProof.Rows L2
theorem typeCall_zip4 (a b c d : Value) : checkTypeCall "zip" ⟨[a, b, c, d], []⟩ = pure () := by kernel_rfl
theorem newCall_zip4 (a b c d : Value) : checkBuiltinCall "zip.__new__" ⟨[.type "zip", a, b, c, d], []⟩ = pure () := by kernel_rfl
theorem args_init5 (o a b c d : Value) : argsOk "object.__init__" ⟨[o, a, b, c, d], []⟩ := by unfold argsOk; kernel_rfl
abbrev lit (l : Addr) : Obj := { cls := .type "list_iterator", data := .fields #[.ref l, .int 0 0] }
abbrev hp1 (h : Heap) (l1 : Addr) : Heap := h.push (lit l1)
abbrev hp2 (h : Heap) (l1 l2 : Addr) : Heap := (hp1 h l1).push (lit l2)
abbrev hp3 (h : Heap) (l1 l2 l3 : Addr) : Heap := (hp2 h l1 l2).push (lit l3)
abbrev hp4 (h : Heap) (l1 l2 l3 l4 : Addr) : Heap := (hp3 h l1 l2 l3).push (lit l4)
abbrev hp5 (h : Heap) (l1 l2 l3 l4 : Addr) : Heap := (hp4 h l1 l2 l3 l4).push { cls := .type "tuple", data := .seq #[.ref h.objs.size, .ref (hp1 h l1).objs.size, .ref (hp2 h l1 l2).objs.size, .ref (hp3 h l1 l2 l3).objs.size] }
abbrev hp6 (h : Heap) (l1 l2 l3 l4 : Addr) : Heap := (hp5 h l1 l2 l3 l4).push { cls := .type "tuple", data := .seq #[.none, .none, .none, .none] }
abbrev hp7 (h : Heap) (l1 l2 l3 l4 : Addr) : Heap := (hp6 h l1 l2 l3 l4).push { cls := .type "zip", data := .fields #[.none, .bool false, .bool false, .ref (hp4 h l1 l2 l3 l4).objs.size, .ref (hp5 h l1 l2 l3 l4).objs.size] }
theorem meets_zip4 (l1 l2 l3 l4 : Addr) (y1 y2 y3 y4 : Array Value) :
    Meets (Builtin.«zip.__new__» ⟨[.type "zip", .ref l1, .ref l2, .ref l3, .ref l4], []⟩) (fun _ R s => L4 l1 l2 l3 l4 y1 y2 y3 y4 s.heap ∧ R (.ok (.ret (.ref (hp6 s.heap l1 l2 l3 l4).objs.size))) { s with heap := hp7 s.heap l1 l2 l3 l4 }) :=
  .of_wp fun prog w A R s h => by
    obtain ⟨hp, g, d, tk, os⟩ := s
    obtain ⟨⟨h1, h2, h3, h4⟩, h⟩ := h
    have hsub := sub_zip
    have u : ∀ {x : Heap} {o' : Obj} {l : Addr} {y : Array Value}, x.IsList l y → (x.push o').IsList l y := fun q => q.at fun o e => Heap.get?_push_of_some _ e
    have q1 : ∀ {A' : Around} {E : Value → Shared → Prop} {Q : Value → Shared → Prop}, Q (.ref hp.objs.size) ⟨hp1 hp l1, g, d, tk, os⟩ → wpAny (model prog w) A' (pyIter (.ref l1)) Q E ⟨hp, g, d, tk, os⟩ := fun q => wpAny_pyIter_list h1 q
    have q2 : ∀ {A' : Around} {E : Value → Shared → Prop} {Q : Value → Shared → Prop}, Q (.ref (hp1 hp l1).objs.size) ⟨hp2 hp l1 l2, g, d, tk, os⟩ → wpAny (model prog w) A' (pyIter (.ref l2)) Q E ⟨hp1 hp l1, g, d, tk, os⟩ := fun q => wpAny_pyIter_list (u h2) q
    have q3 : ∀ {A' : Around} {E : Value → Shared → Prop} {Q : Value → Shared → Prop}, Q (.ref (hp2 hp l1 l2).objs.size) ⟨hp3 hp l1 l2 l3, g, d, tk, os⟩ → wpAny (model prog w) A' (pyIter (.ref l3)) Q E ⟨hp2 hp l1 l2, g, d, tk, os⟩ := fun q => wpAny_pyIter_list (u (u h3)) q
    have q4 : ∀ {A' : Around} {E : Value → Shared → Prop} {Q : Value → Shared → Prop}, Q (.ref (hp3 hp l1 l2 l3).objs.size) ⟨hp4 hp l1 l2 l3 l4, g, d, tk, os⟩ → wpAny (model prog w) A' (pyIter (.ref l4)) Q E ⟨hp3 hp l1 l2 l3, g, d, tk, os⟩ := fun q => wpAny_pyIter_list (u (u (u h4))) q
    wp_walk using q1, q2, q3, q4
    exact ⟨_, rfl, h⟩
section
variable {prog : Program} {w : World} {A : Around} {E : Value → Shared → Prop} {s : Shared} {l1 l2 l3 l4 : Addr} {y1 y2 y3 y4 : Array Value}
theorem begin4 {Q : Value → Shared → Prop} (L : L4 l1 l2 l3 l4 y1 y2 y3 y4 s.heap)
    (h : ∀ h', IsZip h' (s.heap.objs.size + 6) (s.heap.objs.size + 4) (s.heap.objs.size + 5) .none → Z4 (fun k => s.heap.objs.size + k) l1 l2 l3 l4 0 h' → h'.objs.size = s.heap.objs.size + 7 → (∀ b o, s.heap.get? b = some o → h'.get? b = some o) → Q (.ref (s.heap.objs.size + 6)) { s with heap := h' }) :
    wpAny (model prog w) A (call (.type "zip") [.ref l1, .ref l2, .ref l3, .ref l4]) Q E s := by
  refine callType_new PySem.F.called_zip (by decide) (typeCall_zip4 _ _ _ _) (newCall_zip4 _ _ _ _) (fun obj => args_init5 obj _ _ _ _) PySem.F.entry_zip_new (meets_zip4 l1 l2 l3 l4 y1 y2 y3 y4) ⟨L, ?_⟩
  have z1 : (hp1 s.heap l1).objs.size = s.heap.objs.size + 1 := Heap.size_push ..
  have z2 : (hp2 s.heap l1 l2).objs.size = s.heap.objs.size + 2 := (Heap.size_push ..).trans (by rw [z1])
  have z3 : (hp3 s.heap l1 l2 l3).objs.size = s.heap.objs.size + 3 := (Heap.size_push ..).trans (by rw [z2])
  have z4 : (hp4 s.heap l1 l2 l3 l4).objs.size = s.heap.objs.size + 4 := (Heap.size_push ..).trans (by rw [z3])
  have z5 : (hp5 s.heap l1 l2 l3 l4).objs.size = s.heap.objs.size + 5 := (Heap.size_push ..).trans (by rw [z4])
  have z6 : (hp6 s.heap l1 l2 l3 l4).objs.size = s.heap.objs.size + 6 := (Heap.size_push ..).trans (by rw [z5])
  have z7 : (hp7 s.heap l1 l2 l3 l4).objs.size = s.heap.objs.size + 7 := (Heap.size_push ..).trans (by rw [z6])
  have p : ∀ {x : Heap} {o' o : Obj} {b : Addr}, x.get? b = some o → (x.push o').get? b = some o := fun q => Heap.get?_push_of_some _ q
  have gZ : (hp7 s.heap l1 l2 l3 l4).get? (hp6 s.heap l1 l2 l3 l4).objs.size = some { cls := .type "zip", data := .fields #[.none, .bool false, .bool false, .ref (hp4 s.heap l1 l2 l3 l4).objs.size, .ref (hp5 s.heap l1 l2 l3 l4).objs.size] } := Heap.get?_push_size _ rfl
  have gO : (hp7 s.heap l1 l2 l3 l4).get? (hp5 s.heap l1 l2 l3 l4).objs.size = some { cls := .type "tuple", data := .seq #[.none, .none, .none, .none] } := p (Heap.get?_push_size _ rfl)
  have gT : (hp7 s.heap l1 l2 l3 l4).get? (hp4 s.heap l1 l2 l3 l4).objs.size = some { cls := .type "tuple", data := .seq #[.ref s.heap.objs.size, .ref (hp1 s.heap l1).objs.size, .ref (hp2 s.heap l1 l2).objs.size, .ref (hp3 s.heap l1 l2 l3).objs.size] } := p (p (Heap.get?_push_size _ rfl))
  have g4 : (hp7 s.heap l1 l2 l3 l4).get? (hp3 s.heap l1 l2 l3).objs.size = some (lit l4) := p (p (p (Heap.get?_push_size _ rfl)))
  have g3 : (hp7 s.heap l1 l2 l3 l4).get? (hp2 s.heap l1 l2).objs.size = some (lit l3) := p (p (p (p (Heap.get?_push_size _ rfl))))
  have g2 : (hp7 s.heap l1 l2 l3 l4).get? (hp1 s.heap l1).objs.size = some (lit l2) := p (p (p (p (p (Heap.get?_push_size _ rfl)))))
  have g1 : (hp7 s.heap l1 l2 l3 l4).get? s.heap.objs.size = some (lit l1) := p (p (p (p (p (p (Heap.get?_push_size _ rfl))))))
  have kp : ∀ b o, s.heap.get? b = some o → (hp7 s.heap l1 l2 l3 l4).get? b = some o := fun b o q => p (p (p (p (p (p (p q))))))
  show _ ∧ _
  generalize hp7 s.heap l1 l2 l3 l4 = h' at z7 gZ gO gT g4 g3 g2 g1 kp ⊢
  rw [z6, z4, z5] at gZ
  rw [z5] at gO
  rw [z4, z1, z2, z3] at gT
  rw [z3] at g4
  rw [z2] at g3
  rw [z1] at g2
  rw [z6]
  exact ⟨⟨_, gZ, rfl⟩, h h' gZ ⟨gT, ⟨_, _, _, _, gO⟩, ⟨_, g1, rfl, rfl⟩, ⟨_, g2, rfl, rfl⟩, ⟨_, g3, rfl, rfl⟩, ⟨_, g4, rfl, rfl⟩⟩ z7 kp⟩
/-- list(zip(a, b, c, d)) -/
theorem list_zip4 {Q : Value → Shared → Prop} (hh : A.handled = none) (L : L4 l1 l2 l3 l4 y1 y2 y3 y4 s.heap) (z2 : y2.size = y1.size) (z3 : y3.size = y1.size) (z4 : y4.size = y1.size) (hz : y1.size ≤ 1000000)
    (hQ : ∀ s' D Ts, s.heap.objs.size ≤ D → Done4 (fun k => s.heap.objs.size + k) s.heap.objs.size D y1 y2 y3 y4 s s' Ts → Q (.ref D) s') :
    wpAny (model prog w) A (call (.type "zip") [.ref l1, .ref l2, .ref l3, .ref l4]) (fun v s1 => wpAny (model prog w) A (call (.type "list") [v]) Q E s1) E s := by
  have lt : ∀ {l : Addr} {y : Array Value}, s.heap.IsList l y → l < s.heap.objs.size := fun q => by
    obtain ⟨o, e, _⟩ := q
    exact Heap.lt_size e
  refine begin4 L fun h' hz' Z hs kp => ?_
  have S : Sep (fun k => s.heap.objs.size + k) l1 l2 l3 l4 := by
    have ll : ∀ {l : Addr} {y : Array Value}, s.heap.IsList l y → ∀ a, l ≠ s.heap.objs.size + a := fun q a => Nat.ne_of_lt (Nat.lt_of_lt_of_le (lt q) (Nat.le_add_right _ _))
    exact ⟨fun a b n e => n (Nat.add_left_cancel e), ll L.l1, ll L.l2, ll L.l3, ll L.l4⟩
  have L' : L4 l1 l2 l3 l4 y1 y2 y3 y4 h' := ⟨L.l1.at fun o e => kp _ _ e, L.l2.at fun o e => kp _ _ e, L.l3.at fun o e => kp _ _ e, L.l4.at fun o e => kp _ _ e⟩
  refine call_list4 (s := { s with heap := h' }) (c := fun k => s.heap.objs.size + k) (N := s.heap.objs.size) hh S (fun a => Nat.le_add_right _ _) (fun a ha => ?_) (lt L.l1) (lt L.l2) (lt L.l3) (lt L.l4) z2 z3 z4 hz ?_ Z hz' L'
    fun s' D Ts hD d => hQ s' D Ts hD ⟨d.len, d.lst, d.rows, fun b o hb q => d.old b o hb (kp b o q), d.gens, d.drawn, d.os⟩
  · show s.heap.objs.size + a < h'.objs.size
    rw [hs]
    exact Nat.add_lt_add_left ha _
  · show s.heap.objs.size ≤ h'.objs.size
    rw [hs]
    exact Nat.le_add_right _ _
end
end Kin

set_option maxHeartbeats 4000000
namespace Kin
open PySem PySem.Spec PyProof.Rows L2
/-- many new things are tracked -/
theorem laidAll {X : Cx} {pins : List (Addr × Obj)} {σ : L2.St} {H H' : Hp} {s : Shared} {h' : Heap} {t' : Nat} (I : Inv X pins σ H s) (k : ∀ b u, s.heap.get? b = some u → h'.get? b = some u)
    (old : ∀ b, b < s.heap.objs.size → H' b = H b) (new : ∀ b o, s.heap.objs.size ≤ b → H' b = some o → ObjOk X.prog X.w H' h' b o) : Inv X pins σ H' { s with heap := h', toks := t' } := by
  have up : ∀ b u, H b = some u → H' b = some u := fun b u e => by
    rw [old b (Nat.lt_of_not_le fun z => by rw [I.hok.fresh z] at e; cases e)]
    exact e
  refine I.step (g' := s.gens) (d' := s.drawn) (ch := []) (fun _ z => nomatch z) (fun b o _ _ _ e _ => k b o e) (fun b o _ _ _ e _ => ⟨o.slots, k b o e⟩) (fun b o _ e n => ?_) (fun b o _ e => ⟨o, k b o e⟩) (fun b xs e => up _ _ e) (fun b o u e => up _ _ e) (fun b ps e => ⟨#[], ?_⟩) (fun m hm => ?_) (fun b u e => ?_) I.bare
  · rw [old b (Heap.lt_size e)]; exact n
  · rw [up _ _ e]; simp
  · obtain ⟨o, es, ep, ho, r⟩ := hm
    exact ⟨o, es, ep, k _ o ho, r⟩
  · by_cases hb : b < s.heap.objs.size
    · rw [old b hb] at e
      exact (I.hok b u e).stay (fun c v _ q => k c v q) (fun c q => up _ _ q) fun c xs q => up _ _ q
    · exact new b u (Nat.le_of_not_lt hb) e
def row4 (a b c d : List V) (j : Nat) : List V := [a.getD j .non, b.getD j .non, c.getD j .non, d.getD j .non]
def hpZ (H : Hp) (D : Addr) (Ts : List Addr) (r : Nat → List V) : Hp := fun b => if b = D then some (.lst (Ts.map V.ref)) else if b ∈ Ts then some (.tup (r (Ts.idxOf b))) else H b
section
variable {X : Cx} {ta : TA}
/-- list(zip(a, b, c, d)), four lists of one length -/
def tZip4 (K : PySem.W.Frag) (ta : TA) : TE := fun σ H Q => ta σ H fun vs H1 => ∃ (a b c d : Addr) (x1 x2 x3 x4 : List V), vs = [.ref a, .ref b, .ref c, .ref d] ∧ SqL K H1 a x1 ∧ SqL K H1 b x2 ∧ SqL K H1 c x3 ∧ SqL K H1 d x4 ∧
  x2.length = x1.length ∧ x3.length = x1.length ∧ x4.length = x1.length ∧ x1.length ≤ 1000000 ∧
  ∀ H2 D (Ts : List Addr), Same H1 H2 → H2 D = some (.lst (Ts.map V.ref)) → Ts.length = x1.length → (∀ j T, Ts[j]? = some T → H2 T = some (.tup (row4 x1 x2 x3 x4 j))) → Q (.ref D) H2
theorem got {xs : List V} {us : List Value} (r : Vals xs us) {j : Nat} {u : Value} (e : us.toArray[j]? = some u) : RelV (xs.getD j .non) u := by
  have hj : j < us.length := by
    have := (List.getElem?_eq_some_iff.mp (show us[j]? = some u by simpa using e)).1
    exact this
  rw [← r.length] at hj
  obtain ⟨u', e', ru⟩ := r.get (List.getElem?_eq_getElem hj)
  have : u' = u := Option.some.inj (e'.symm.trans (by simpa using e))
  subst this
  rw [List.getD_eq_getElem?_getD, List.getElem?_eq_getElem hj]
  exact ru
theorem Vals.refs : ∀ (Ts : List Addr), Vals (Ts.map V.ref) (Ts.map Value.ref)
  | [] => .nil
  | T :: Ts => .cons rfl (Vals.refs Ts)
theorem pe_listZip4 {a b c d : Expr} {p pos p2 pos2 : Pos} (hc : X.calm = true) (hg : Gl X "list") (hm : X.mg "list" = none) (hg2 : Gl X "zip") (hm2 : X.mg "zip" = none) (ha : PA X [a, b, c, d] ta)
    (hs1 : starEach [.Call (.Name "zip" p2) [a, b, c, d] [] pos2] X.env = (false, eval (.Call (.Name "zip" p2) [a, b, c, d] [] pos2) X.env) :: starEach [] X.env := by rfl)
    (hs : starEach [a, b, c, d] X.env = (false, eval a X.env) :: starEach [b, c, d] X.env := by rfl) (hpl : (backTo pos2 (starEach [b, c, d] X.env)).any (·.1) = false := by rfl) :
    PE X (.Call (.Name "list" p) [.Call (.Name "zip" p2) [a, b, c, d] [] pos2] [] pos) (tZip4 X.K ta) := by
  refine ⟨fun pins s σ H Q I h => ?_⟩
  refine Call_ (ld_blt I hg hm PyProof.Rows.boot_list (PyProof.Rows.callWith_type1 ?_ hs1 rfl))
  refine Calls.spliced_cons ?_
  refine wpAny_Call_Name_kw (ld_blt I hg2 hm2 PyProof.Rows.boot_zip (PyProof.Rows.callWith_type1 (thn (ha.run pos2 pins s σ H _ I h) ?_) hs hpl))
  rintro us s1 ⟨vs, H1, I1, r1, a', b', c', d', x1, x2, x3, x4, rfl, q1, q2, q3, q4, l2, l3, l4, lm, q⟩
  cases r1 with
  | cons e1 r1 =>
  cases r1 with
  | cons e2 r1 =>
  cases r1 with
  | cons e3 r1 =>
  cases r1 with
  | cons e4 r1 =>
  cases r1
  cases e1; cases e2; cases e3; cases e4
  obtain ⟨y1, v1, p1, _⟩ := I1.list q1
  obtain ⟨y2, v2, p2, _⟩ := I1.list q2
  obtain ⟨y3, v3, p3, _⟩ := I1.list q3
  obtain ⟨y4, v4, p4, _⟩ := I1.list q4
  have n1 := v1.length
  have n2 := v2.length
  have n3 := v3.length
  have n4 := v4.length
  have hsl := sizeLine_eq
  refine wpAny_mono (list_zip4 (Q := EP X pins σ Q) (E := X.xe) (I1.ok.hd hc) ⟨p1.isList, p2.isList, p3.isList, p4.isList⟩ (by simp; omega) (by simp; omega) (by simp; omega) (by simp; omega) fun s' D Ts hD dn => ?_)
    (fun v s4 h4 => Calls.spliced_nil h4) fun _ _ z => z
  obtain ⟨hp, gs, dr, tk, os⟩ := s'
  obtain ⟨len, ⟨cap, lst⟩, ⟨nd, rows⟩, old, rfl, rfl, rfl⟩ := dn
  have len : Ts.length = x1.length := by rw [len]; simp; omega
  have lst : hp.get? D = some { cls := .type "list", dict := none, data := .seq (Ts.map Value.ref).toArray cap, slots := #[] } := lst
  have at_ : ∀ (j : Nat) (T : Addr), Ts[j]? = some T → hpZ H1 D Ts (row4 x1 x2 x3 x4) T = some (.tup (row4 x1 x2 x3 x4 j)) := fun j T hT => by
    obtain ⟨_, nD, _⟩ := rows j T hT
    obtain ⟨hj, eT⟩ := List.getElem?_eq_some_iff.mp hT
    unfold hpZ
    rw [if_neg nD, if_pos (List.mem_of_getElem? hT)]
    congr 3
    subst eT
    exact nd.idxOf_getElem j hj
  have I2 : Inv X pins σ (hpZ H1 D Ts (row4 x1 x2 x3 x4)) { s1 with heap := hp, toks := tk } := by
    refine laidAll I1 (fun b u e => old b u (Heap.lt_size e) e) (fun b hb => ?_) (fun b o hb e => ?_)
    · unfold hpZ
      rw [if_neg (Nat.ne_of_lt (Nat.lt_of_lt_of_le hb hD)), if_neg]
      intro hm
      obtain ⟨j, hj⟩ := List.getElem?_of_mem hm
      exact absurd (Nat.lt_of_lt_of_le hb (rows j b hj).1) (Nat.lt_irrefl _)
    · by_cases hbD : b = D
      · subst hbD
        unfold hpZ at e
        rw [if_pos rfl] at e
        cases e
        exact ⟨by rw [List.length_map]; omega, Ts.map Value.ref, cap, Vals.refs Ts, lst⟩
      · by_cases hm : b ∈ Ts
        · obtain ⟨j, hj⟩ := List.getElem?_of_mem hm
          rw [at_ j b hj] at e
          cases e
          obtain ⟨_, _, _, u1, u2, u3, u4, g1, g2, g3, g4, eT⟩ := rows j b hj
          exact ⟨by show 4 ≤ sizeLine; omega, [u1, u2, u3, u4], .cons (got v1 g1) (.cons (got v2 g2) (.cons (got v3 g3) (.cons (got v4 g4) .nil))), ⟨_, eT, rfl, _, rfl⟩⟩
        · unfold hpZ at e
          rw [if_neg hbD, if_neg hm, I1.hok.fresh hb] at e
          cases e
  refine ⟨.ref D, _, I2, rfl, q _ D Ts (fun b o e => ?_) ?_ len at_⟩
  · have hb : b < s1.heap.objs.size := (I1.hok b o e).lt
    unfold hpZ
    rw [if_neg (Nat.ne_of_lt (Nat.lt_of_lt_of_le hb hD)), if_neg]
    · exact e
    · intro hm
      obtain ⟨j, hj⟩ := List.getElem?_of_mem hm
      exact absurd (Nat.lt_of_lt_of_le hb (rows j b hj).1) (Nat.lt_irrefl _)
  · unfold hpZ
    rw [if_pos rfl]
end
end Kin

set_option maxHeartbeats 4000000
/-! a, *b = a tuple -/
namespace Kin
open PySem PySem.Spec PyProof.Rows L2
section
variable {prog : Program} {w : World} {A : Around} {E : Value → Shared → Prop} {s : Shared}
theorem collect_tupFrom {it t : Addr} {items : Array Value} {k : Nat} {Q : List Value → Shared → Prop} (hh : A.handled = none) (hit : IsTupIter s.heap it t k) (ht : IsTup s.heap t items) (hne : t ≠ it) (hk : k ≤ items.size) (hn : items.size ≤ sizeLine)
    (hQ : ∀ h' tk, (∀ b o, b ≠ it → s.heap.get? b = some o → h'.get? b = some o) → Q (items.toList.drop k) { s with heap := h', toks := tk }) :
    wpAny (model prog w) A (collect (.ref it)) Q E s := by
  have W0 := Walks.tuple (prog := prog) (w := w) (A := A.in1) hh it t hne items
  have W : Walks prog w A.in1 it [it, t] [it] (items.size - k) (fun i v => items[k + i]? = some v) (fun i h => IsTupIter h it t (k + i) ∧ IsTup h t items) :=
    ⟨W0.sub, fun i h h' st => W0.frame (k + i) h h' st, fun i s Q E hi st hQ => W0.item (k + i) s Q E (by omega) st hQ, fun s Q E st hQ => W0.done s Q E (by rw [show k + (items.size - k) = items.size by omega] at st; exact st) hQ, fun i s Q E st hQ => W0.self (k + i) s Q E st hQ⟩
  have li : it < s.heap.objs.size := by obtain ⟨_, e, _⟩ := hit; exact Heap.lt_size e
  have lt : t < s.heap.objs.size := by obtain ⟨_, e, _⟩ := ht; exact Heap.lt_size e
  refine wpAny_collect_iter (T := "tuple_iterator") (n := items.size - k) (.inr (.inr (.inr rfl))) W.toS (fun i s st => st.1.typeIs) ⟨hit, ht⟩ (fun b hb => ?_) List.mem_cons_self (fun s' acc mv ha => ?_) (by omega)
  · rcases (show b = it ∨ b = t by simpa using hb) with rfl | rfl
    · exact li
    · exact lt
  · obtain ⟨hp, gs, dr, tk, os⟩ := s'
    obtain ⟨m1, m2, m3, m4, _⟩ := mv
    obtain rfl : gs = s.gens := m2
    obtain rfl : dr = s.drawn := m3
    obtain rfl : os = s.os := m4
    have e : acc.toList = items.toList.drop k := by
      obtain ⟨h1, h2⟩ := ha
      apply List.ext_getElem?
      intro i
      rw [List.getElem?_drop]
      by_cases hi : i < acc.size
      · have e1 : acc.toList[i]? = some acc[i] := by simp [hi]
        have e2 := h2 i acc[i] (by simp [hi])
        rw [e1, ← e2]
        simp
      · rw [List.getElem?_eq_none (by simpa using hi), List.getElem?_eq_none (by simp at h1 ⊢; omega)]
    rw [e]
    exact hQ hp tk fun b o hb q => m1 b o (by simpa using hb) q
theorem unpack_star {t : Addr} {x : Value} {items : Array Value} {f1 f2 : Value → Sem Unit} {Q : Unit → Shared → Prop} (hh : A.handled = none) (ht : IsTup s.heap t items) (hx : items[0]? = some x) (hn : items.size ≤ sizeLine)
    (h : ∀ h' tk l, s.heap.get? l = none → (∀ b o, s.heap.get? b = some o → h'.get? b = some o) → h'.get? l = some { cls := .type "list", dict := none, data := .seq (items.toList.drop 1).toArray, slots := #[] } →
      wpAny (model prog w) A (assignInOrder [f1, f2] [x, .ref l]) Q E { s with heap := h', toks := tk }) :
    wpAny (model prog w) A (unpack (.ref t) [(false, f1), (true, f2)]) Q E s := by
  have hlt : t ≠ s.heap.objs.size := by obtain ⟨o, ho, _⟩ := ht; exact Nat.ne_of_lt (Heap.lt_size ho)
  have h0 : 0 < items.size := by
    have := (Array.getElem?_eq_some_iff.mp hx).1
    exact this
  unfold unpack
  show wpAny _ _ (holding [.ref t] (unpackItems (.ref t) 2 (some 1)) >>= fun vs => assignInOrder [f1, f2] vs) _ _ _
  refine wpAny_bind (wpAny_holding ?_)
  unfold unpackItems
  refine wpAny_bind ?_
  unfold notIterableAtAll
  refine wpAny_bind (wpAny_specialOf ht.typeIs F.slot_tuple_iter.lookup ?_)
  refine wpAny_pure ?_
  simp only [Bool.false_eq_true, if_false]
  refine wpAny_bind (wpAny_holding (iter_tuple ht ?_))
  refine wpAny_bind (wpAny_holding (draw_tuple hlt 1 0 _ _ ⟨_, Heap.get?_push_size _ rfl, rfl, rfl⟩ (ht.push _) (by omega) fun h₁ hit₁ hs₁ => ?_))
  have e1 : List.take 1 (List.drop 0 items.toList) = [x] := by
    rw [List.drop_zero, List.take_one]
    have : items.toList.head? = some x := by rw [List.head?_eq_getElem?]; simpa using hx
    rw [this]
    rfl
  rw [e1]
  rw [if_neg (by show ¬ (1 < 1); omega)]
  have ht₁ : IsTup h₁ t items := (ht.push _).extBut hs₁.extBut hlt
  refine wpAny_bind (wpAny_holding (collect_tupFrom hh hit₁ ht₁ hlt (by omega) hn fun h₂ tk hk₂ => ?_))
  show wpAny _ _ (if (items.toList.drop (0 + 1)).length < 2 - 1 - 1 then _ else _) _ _ _
  rw [if_neg (by omega)]
  have k2 : ∀ b o, s.heap.get? b = some o → h₂.get? b = some o := fun b o q => by
    have hb : b ≠ s.heap.objs.size := Nat.ne_of_lt (Heap.lt_size q)
    exact hk₂ b o hb (hs₁.extBut b o hb (Heap.get?_push_of_some _ q))
  have ez : (items.toList.drop (0 + 1)).length - (2 - 1 - 1) = (items.toList.drop (0 + 1)).length := by omega
  have el : (items.toList.drop (0 + 1)).take (items.toList.drop (0 + 1)).length = items.toList.drop 1 := List.take_length
  have ed : (items.toList.drop (0 + 1)).drop (items.toList.drop (0 + 1)).length = [] := List.drop_length
  rw [ez, el, ed]
  refine wpAny_bind (wpAny_newObj_type ?_ (by show ((items.toList.drop 1).toArray).size ≤ sizeLine; simp; omega))
  refine wpAny_pure ?_
  refine h _ tk h₂.objs.size ?_ (fun b o q => Heap.get?_push_of_some _ (k2 b o q)) (Heap.get?_push_size _ rfl)
  cases q : s.heap.get? h₂.objs.size with
  | none => rfl
  | some o => exact absurd (Heap.lt_size (k2 _ _ q)) (Nat.lt_irrefl _)
end
theorem ok_there {P : Program} {w : World} {H : Hp} {h : Heap} {a : Addr} {o : HO} (x : ObjOk P w H h a o) : ∃ u, h.get? a = some u := by
  cases o with
  | dK kvs => exact (let ⟨_, _, _, _, u, _, _, e, _⟩ := x; ⟨u, e⟩)
  | dT kvs => exact (let ⟨_, _, _, _, u, _, _, e, _⟩ := x; ⟨u, e⟩)
  | lst xs => exact (let ⟨_, _, _, _, e⟩ := x; ⟨_, e⟩)
  | tup xs => exact (let ⟨_, _, _, u, e, _⟩ := x; ⟨u, e⟩)
  | set S n => exact (let ⟨u, _, _, _, e, _⟩ := x; ⟨u, e⟩)
  | ins C dx fs => exact (let ⟨_, _, _, e, _⟩ := x; ⟨_, e⟩)
  | own y => exact x
  | xd fs => exact (let ⟨_, ⟨u, _, _, e, _⟩, _⟩ := x; ⟨u, e⟩)
  | rng lo hi => exact (let ⟨_, _, _, e⟩ := x; ⟨_, e⟩)
  | frz ob u => exact ⟨_, x.1⟩
  | tbl ps => exact ⟨_, x⟩
  | met f y => exact ⟨_, x⟩
  | ext φ => exact x.2.1
section
variable {X : Cx} {pos : Pos}
/-- a, *b = a tuple -/
def gStar (K : PySem.W.Frag) (t1 t2 : TG) : TG := fun v σ H Q => ∃ a x xs, v = .ref a ∧ SqT K H a (x :: xs) ∧ ∀ l, H l = none → t1 x σ (upd H l (.lst xs)) fun σ1 H1 => t2 (.ref l) σ1 H1 Q
theorem pg_star {e1 e2 : Expr} {p : Pos} {k : Nat} {t1 t2 : TG} (hc : X.calm = true) (h1 : PG X e1 t1) (h2 : PG X e2 t2) (hs : assignEach [e1, .Starred e2 p] X.env = [(false, assign e1 X.env), (true, assign e2 X.env)] := by rfl) :
    PG X (.Tuple [e1, .Starred e2 p] k pos) (gStar X.K t1 t2) := by
  refine ⟨fun pins s σ H v u Q I r hw => ?_⟩
  obtain ⟨a, x, xs, rfl, hq, hw⟩ := hw
  cases r
  obtain ⟨its, rv, ht, hz⟩ := I.tuple hq
  cases rv with
  | cons rx rxs =>
    rename_i ux uxs
    have hl := rxs.length
    rw [assign_Tuple]
    refine wpAny_bind (wpAny_standAt ?_)
    rw [hs]
    refine unpack_star (x := ux) (I.ok.hd hc) ht (by simp) (by simp at hz ⊢; omega) fun h' tk l nl kp el => ?_
    have hn : H l = none := by
      cases q : H l with
      | none => rfl
      | some o =>
        obtain ⟨u, e⟩ := ok_there (I.hok l o q)
        rw [nl] at e
        cases e
    have I1 : Inv X pins σ (upd H l (.lst xs)) { s with heap := h', toks := tk } :=
      I.laidN (t' := tk) kp nl hn ⟨by simp at hz ⊢; omega, uxs, _, rxs, by simpa using el⟩
    refine assignInOrder_cons (thn (h1.run pins _ σ _ x ux _ I1 rx (hw l hn)) fun _ s1 ⟨σ1, H1, I2, q1⟩ => ?_)
    refine assignInOrder_cons (thn (h2.run pins s1 σ1 H1 (.ref l) (.ref l) _ I2 rfl q1) fun _ s2 ⟨σ2, H2, I3, q2⟩ => ?_)
    exact assignInOrder_nil ⟨σ2, H2, I3, q2⟩
end
end Kin

set_option maxHeartbeats 2000000
/-! ### things as data, tracked (L: lists too) -/
namespace Kin
open PySem PySem.Spec PyProof.Rows L2
mutual
inductive Td (L : Bool) (H : Hp) : V → PyData → Prop
  | non : Td L H .non .none
  | bl (b : Bool) : Td L H (.bl b) (.bool b)
  | int (i : Int) : Td L H (.int i) (.int i)
  | str {z : Str} (h : z.length ≤ 1000) : Td L H (.str z) (.str z)
  | lst {a : Addr} {xs : List V} {ds : List PyData} (l : L = true) (e : H a = some (.lst xs)) (n : xs.length ≤ 1000) (r : TdAll L H xs ds) : Td L H (.ref a) (.list ds)
  | tup {a : Addr} {xs : List V} {ds : List PyData} (e : H a = some (.tup xs)) (n : xs.length ≤ 1000) (r : TdAll L H xs ds) : Td L H (.ref a) (.tuple ds)
inductive TdAll (L : Bool) (H : Hp) : List V → List PyData → Prop
  | nil : TdAll L H [] []
  | cons {v : V} {vs : List V} {d : PyData} {ds : List PyData} (h : Td L H v d) (r : TdAll L H vs ds) : TdAll L H (v :: vs) (d :: ds)
end
section
variable {L M : Bool} {H H' : Hp} {K : PySem.W.Frag}
mutual
theorem Td.move (k : L = true → M = true) (kt : ∀ b xs, H b = some (.tup xs) → H' b = some (.tup xs)) (kl : L = true → ∀ b xs, H b = some (.lst xs) → H' b = some (.lst xs)) : ∀ (d : PyData) (v : V), Td L H v d → Td M H' v d
  | .none, _, h => by cases h; exact .non
  | .bool b, _, h => by cases h; exact .bl b
  | .int i, _, h => by cases h; exact .int i
  | .str z, _, h => by
    cases h with
    | str n => exact .str n
  | .list ds, _, h => by
    cases h with
    | lst l e n r => exact .lst (k l) (kl l _ _ e) n (Td.moveAll k kt kl ds _ r)
  | .tuple ds, _, h => by
    cases h with
    | tup e n r => exact .tup (kt _ _ e) n (Td.moveAll k kt kl ds _ r)
  | .dict _, _, h => by cases h
theorem Td.moveAll (k : L = true → M = true) (kt : ∀ b xs, H b = some (.tup xs) → H' b = some (.tup xs)) (kl : L = true → ∀ b xs, H b = some (.lst xs) → H' b = some (.lst xs)) : ∀ (ds : List PyData) (vs : List V), TdAll L H vs ds → TdAll M H' vs ds
  | [], _, h => by cases h; exact .nil
  | d :: ds, _, h => by
    cases h with
    | cons h r => exact .cons (Td.move k kt kl d _ h) (Td.moveAll k kt kl ds _ r)
end
mutual
theorem Td.dp : ∀ (d : PyData) (v : V), Td L H v d → Dp K H v d
  | .none, _, h => by cases h; exact .non
  | .bool b, _, h => by cases h; exact .bl b
  | .int i, _, h => by cases h; exact .int i
  | .str z, _, h => by
    cases h with
    | str n => exact .str z
  | .list ds, _, h => by
    cases h with
    | lst l e n r => exact .lst (.inl (.inl e)) (Td.dpAll ds _ r)
  | .tuple ds, _, h => by
    cases h with
    | tup e n r => exact .tup (.inl (.inl e)) (Td.dpAll ds _ r)
  | .dict _, _, h => by cases h
theorem Td.dpAll : ∀ (ds : List PyData) (vs : List V), TdAll L H vs ds → DpAll K H vs ds
  | [], _, h => by cases h; exact .nil
  | d :: ds, _, h => by
    cases h with
    | cons h r => exact .cons (Td.dp d _ h) (Td.dpAll ds _ r)
end
theorem Td.mono {v : V} {d : PyData} (t : Td L H v d) (s : Same H H') : Td L H' v d := Td.move (fun l => l) (fun b _ e => s b _ e) (fun _ b _ e => s b _ e) d v t
theorem TdAll.mono {v : List V} {d : List PyData} (t : TdAll L H v d) (s : Same H H') : TdAll L H' v d := Td.moveAll (fun l => l) (fun b _ e => s b _ e) (fun _ b _ e => s b _ e) d v t
theorem Td.lists {v : V} {d : PyData} (t : Td false H v d) : Td true H v d := Td.move (fun _ => rfl) (fun b _ e => e) (fun _ b _ e => e) d v t
theorem TdAll.length : ∀ {ds : List PyData} {vs : List V}, TdAll L H vs ds → vs.length = ds.length
  | [], _, h => by cases h; rfl
  | d :: ds, _, h => by
    cases h with
    | cons h r => rw [List.length_cons, List.length_cons, TdAll.length r]
theorem TdAll.get : ∀ {ds : List PyData} {vs : List V}, TdAll L H vs ds → ∀ {i : Nat} {v : V}, vs[i]? = some v → ∃ d, ds[i]? = some d ∧ Td L H v d
  | [], _, h, i, v, e => by cases h; cases e
  | d :: ds, _, h, i, v, e => by
    cases h with
    | cons h r =>
      cases i with
      | zero =>
        cases e
        exact ⟨d, rfl, h⟩
      | succ i => exact TdAll.get r (i := i) e
def isStrD : PyData → Bool
  | .str _ => true
  | _ => false
def isTupD : PyData → Bool
  | .tuple _ => true
  | _ => false
def isBlD : PyData → Bool
  | .bool _ => true
  | _ => false
def isIntD : PyData → Bool
  | .int _ => true
  | .bool _ => true
  | _ => false
structure TyD (K : PySem.W.Frag) (H : Hp) (v : V) (d : PyData) : Prop where
  ex : ∃ n : String, TyX K H v (.type n) ∧ kitB n "str" = some (isStrD d) ∧ kitB n "tuple" = some (isTupD d) ∧ kitB n "int" = some (isIntD d) ∧ kitB n "bool" = some (isBlD d)
theorem Td.ty {v : V} {d : PyData} (t : Td L H v d) : TyD K H v d := by
  cases t with
  | non => exact ⟨"NoneType", .base .non, by decide +kernel, by decide +kernel, by decide +kernel, by decide +kernel⟩
  | bl b => exact ⟨"bool", .base (.bl b), show kitB "bool" "str" = some false by decide +kernel, show kitB "bool" "tuple" = some false by decide +kernel, show kitB "bool" "int" = some true by decide +kernel, show kitB "bool" "bool" = some true by decide +kernel⟩
  | int i => exact ⟨"int", .base (.int i), show kitB "int" "str" = some false by decide +kernel, show kitB "int" "tuple" = some false by decide +kernel, show kitB "int" "int" = some true by decide +kernel, show kitB "int" "bool" = some false by decide +kernel⟩
  | str h => exact ⟨"str", .base (.str _), show kitB "str" "str" = some true by decide +kernel, show kitB "str" "tuple" = some false by decide +kernel, show kitB "str" "int" = some false by decide +kernel, show kitB "str" "bool" = some false by decide +kernel⟩
  | lst l e n r => exact ⟨"list", .base (.lst e), show kitB "list" "str" = some false by decide +kernel, show kitB "list" "tuple" = some false by decide +kernel, show kitB "list" "int" = some false by decide +kernel, show kitB "list" "bool" = some false by decide +kernel⟩
  | tup e n r => exact ⟨"tuple", .base (.tup e), show kitB "tuple" "str" = some false by decide +kernel, show kitB "tuple" "tuple" = some true by decide +kernel, show kitB "tuple" "int" = some false by decide +kernel, show kitB "tuple" "bool" = some false by decide +kernel⟩
end
theorem b_bool : bootBuiltins "bool" = some (.type "bool") := by decide +kernel
/-! ### what is never come to -/
section
variable {X : Cx}
theorem ps_no {st : Stmt} : PS X st (fun _ _ _ => False) := ⟨fun _ _ _ _ _ _ h => h.elim⟩
theorem pss_no {st : List Stmt} : PSs X st (fun _ _ _ => False) := ⟨fun _ _ _ _ _ _ h => h.elim⟩
theorem pt_no {e : Expr} : PT X e (fun _ _ _ => False) := ⟨fun _ _ _ _ _ _ h => h.elim⟩
theorem pe_no {e : Expr} : PE X e (fun _ _ _ => False) := ⟨fun _ _ _ _ _ _ h => h.elim⟩
end
theorem same_set {H H' : Hp} {a : Addr} {o : HO} (s : Same H H') (n : H a = none) : Same H (upd H' a o) := fun b x e => by
  rw [upd_ne (ne_of_none e n)]
  exact s b x e
theorem ixNn {n j : Nat} (hj : j < n) : ixN n (j : Int) = some j := by
  unfold ixN
  rw [if_pos (by omega), if_pos (by omega)]
  simp
theorem getD_some {α : Type} {l : List α} {k : Nat} {d : α} (h : k < l.length) : l[k]? = some (l.getD k d) := by
  rw [List.getD_eq_getElem?_getD, List.getElem?_eq_getElem h]
  rfl
structure ExT (K : PySem.W.Frag) (mg : Str → Option Value) (n : Str) (C : Addr) : Prop where
  g : mg n = some (.ref C)
  x : PySem.W.excIn K C [.type "ValueError", .type "Exception", .type "BaseException", .type "object"] "ValueError.__new__" = true
  k : PySem.W.keepIn K (.ref C) = true
  b : PySem.W.subIn K (.ref C) (.type "BaseException") = some true
  t : PySem.W.typeIn K (.ref C) = some (.type "type")
structure Df (K : PySem.W.Frag) (mg : Str → Option Value) (x : Str) (st : Stmt) (ps : List Str) (a : Addr) (fd : FuncData) : Prop where
  F : Fun K x x st a fd
  b : Binds K fd ps []
  g : mg x = some (.ref a)
end Kin

set_option maxHeartbeats 4000000
namespace Kin
open PySem PySem.Spec PyProof.Rows L2
theorem df_mk {K : PySem.W.Frag} {mg : Str → Option Value} {h : Heap} {x : Str} {st : Stmt} {ps : List Str} {f : Addr} {oc : Value} {od an : Option Addr} {osl : Array (Option Value)} {kV doc pm cdv ct : Value} (X : K.In h) (G : h.Ns mainGlobals mg)
    (a : PySem.W.nsIn K mainGlobals x = some (some (.ref f))) (l : K.lookup f = some ⟨oc, od, .func (PySem.W.fnOf x x (defArgs st) (defBody st) (defScope st) .none kV doc pm an cdv ct), osl⟩) (c : PySem.W.codeIn K cdv x = true) (k : PySem.W.keepIn K (.ref f) = true)
    (b : ∀ (kV doc pm : Value) (an : Option Addr) (cdv ct : Value) (us : List Value), us.length = ps.length → bindArgs (PySem.W.fnOf x x (defArgs st) (defBody st) (defScope st) .none kV doc pm an cdv ct) ⟨us, []⟩ = pure (ps.zip us)) :
    Df K mg x st ps f (PySem.W.fnOf x x (defArgs st) (defBody st) (defScope st) .none kV doc pm an cdv ct) :=
  ⟨fun_mk l c k, (fun_mk (st := st) l c k).binds b, PySem.W.mg_of X G a⟩
theorem clsIf {K : PySem.W.Frag} {C : Addr} (i : PySem.W.isClsIn K C = true) (t : PySem.W.typeIn K (.ref C) = some (.type "type")) : ((PySem.W.clsIn K C).isSome && PySem.W.typeIn K (.ref C) == some (.type "type")) = true := by
  have i' : (PySem.W.clsIn K C).isSome = true := i
  rw [i', t] <;> rfl
theorem kit_self {K : PySem.W.Frag} {D : Addr} : PySem.W.kitOne K (.ref D) (.ref D) = some true := by
  unfold PySem.W.kitOne
  rw [if_pos (beq_self_eq_true _)]
theorem kit_no {K : PySem.W.Frag} {C D : Addr} (i : PySem.W.isClsIn K C = true) (t : PySem.W.typeIn K (.ref C) = some (.type "type")) (s0 : PySem.W.subIn K (.ref D) (.ref D) = some true) (s : PySem.W.subIn K (.ref D) (.ref C) = some false) : PySem.W.kitOne K (.ref D) (.ref C) = some false := by
  have ne : ¬ ((Value.ref D == Value.ref C) = true) := fun z => by
    cases eq_of_beq z
    rw [s0] at s
    cases s
  unfold PySem.W.kitOne
  rw [if_neg ne]
  show (if ((PySem.W.clsIn K C).isSome && PySem.W.typeIn K (.ref C) == some (.type "type")) = true then PySem.W.subIn K (.ref D) (.ref C) else none) = _
  rw [if_pos (clsIf i t)]
  exact s
theorem kit_type {K : PySem.W.Frag} {D : Addr} {T : String} (m : PySem.W.kitMeta T = true) (s : PySem.W.subIn K (.ref D) (.type T) = some true) : PySem.W.kitOne K (.ref D) (.type T) = some true := by
  have ne : ¬ ((Value.ref D == Value.type T) = true) := fun z => by cases eq_of_beq z
  unfold PySem.W.kitOne
  rw [if_neg ne]
  show (if PySem.W.kitMeta T = true then PySem.W.subIn K (.ref D) (.type T) else none) = _
  rw [if_pos m]
  exact s
theorem exm_mk {K : PySem.W.Frag} {C D : Addr} (h1 : PySem.W.subIn K (.ref C) (.type "BaseException") = some true) (i : PySem.W.isClsIn K C = true) (t : PySem.W.typeIn K (.ref C) = some (.type "type")) (s : PySem.W.subIn K (.ref D) (.ref C) = some true) : PySem.W.exmOne K (.ref D) (.ref C) = some true := by
  have e1 : (PySem.W.subIn K (.ref C) (.type "BaseException") == some true) = true := by rw [h1] <;> rfl
  show (if (PySem.W.subIn K (.ref C) (.type "BaseException") == some true) = true then (if ((PySem.W.clsIn K C).isSome && PySem.W.typeIn K (.ref C) == some (.type "type")) = true then PySem.W.subIn K (.ref D) (.ref C) else none) else none) = some true
  rw [if_pos e1, if_pos (clsIf i t)]
  exact s
end Kin

set_option maxHeartbeats 4000000
namespace K19
open PySem PySem.Spec PyProof.Rows L2 Kin
def top (i : Nat) : Stmt := PySem.Challenge.pw_kincalls_k19_whole_texts_refused.main.body.getD i (.Pass ⟨0, 0, 0, 0⟩)
structure TxtB (K : PySem.W.Frag) (mg : Str → Option Value) where
  n_ValueError : mg "ValueError" = none
  n_all : mg "all" = none
  n_bool : mg "bool" = none
  n_int : mg "int" = none
  n_isinstance : mg "isinstance" = none
  n_len : mg "len" = none
  n_range : mg "range" = none
  n_str : mg "str" = none
  n_tuple : mg "tuple" = none
  tk0 : Tok
  g_LETTERS : mg "LETTERS" = some (.str "abcdefghijklmnopqrstuvwxyz" tk0)
  aSEXES : Addr
  g_SEXES : mg "SEXES" = some (.ref aSEXES)
  q_SEXES : ∀ H, SqT K H aSEXES [.str "he", .str "she"]
  tk2 : Tok
  g_MOST_LETTERS : mg "MOST_LETTERS" = some (.int 6 tk2)
  tk3 : Tok
  g_MOST_PERSONS : mg "MOST_PERSONS" = some (.int 40 tk3)
  tk4 : Tok
  g_STEPS : mg "STEPS" = some (.str "fmsd" tk4)
  tk5 : Tok
  g_MOST_STANDS : mg "MOST_STANDS" = some (.int 8 tk5)
  tk6 : Tok
  g_MOST_WORD : mg "MOST_WORD" = some (.int 8 tk6)
  tk7 : Tok
  g_MOST_SIGNS : mg "MOST_SIGNS" = some (.int 1000 tk7)
  aF : Addr
  c_NoFamily : ExT K mg "NoFamily" aF
  aS : Addr
  c_NoSpeech : ExT K mg "NoSpeech" aS
  aT : Addr
  c_NoText : ExT K mg "NoText" aT
end K19

set_option maxHeartbeats 4000000
/-! ### written things, by their data -/
namespace Kin
open PySem PySem.Spec PyProof.Rows L2
structure Vw (H0 : Hp) (vw : Hp → Hp) : Prop where
  mono : ∀ H H', Same H0 H → Same H H' → Same (vw H) (vw H')
  new : ∀ H t o, Same H0 H → H t = none → vw (upd H t o) t = some o
  sub : ∀ H b o, vw H b = some o → H b = some o
def hide (l : Addr) (H : Hp) : Hp := fun b => if b = l then none else H b
theorem vw_id {H0 : Hp} : Vw H0 id := ⟨fun _ _ _ s => s, fun _ _ _ _ _ => upd_same, fun _ _ _ e => e⟩
theorem vw_hide {H0 : Hp} {l : Addr} {o : HO} (h : H0 l = some o) : Vw H0 (hide l) := by
  refine ⟨fun H H' _ s b x e => ?_, fun H t x s n => ?_, fun H b x e => ?_⟩
  · unfold hide at e ⊢
    by_cases c : b = l
    · rw [if_pos c] at e; cases e
    · rw [if_neg c] at e ⊢
      exact s b x e
  · unfold hide
    rw [if_neg (fun z => by rw [z, s _ _ h] at n; cases n)]
    exact upd_same
  · unfold hide at e
    by_cases c : b = l
    · rw [if_pos c] at e; cases e
    · rw [if_neg c] at e
      exact e
/-- te makes a thing whose data is d, all else kept -/
def Mk (vw : Hp → Hp) (H0 : Hp) (te : TE) (σ : L2.St) (d : PyData) : Prop := ∀ H Q, Same H0 H → (∀ H' x, Same H H' → Td true (vw H') x d → Q x H') → te σ H Q
def MkA (vw : Hp → Hp) (H0 : Hp) (ta : TA) (σ : L2.St) (ds : List PyData) : Prop := ∀ H Q, Same H0 H → (∀ H' xs, Same H H' → TdAll true (vw H') xs ds → Q xs H') → ta σ H Q
section
variable {K : PySem.W.Frag} {vw : Hp → Hp} {H0 : Hp} {σ : L2.St} {te tf : TE} {ta : TA} {d e : PyData} {ds es : List PyData}
theorem mk_c {v : V} (h : ∀ H, Td true H v d) : Mk vw H0 (tC v) σ d := fun H Q s k => k H v (Same.refl H) (h _)
theorem mk_non : Mk vw H0 (tC .non) σ .none := mk_c fun _ => .non
theorem mk_bl {b : Bool} : Mk vw H0 (tC (.bl b)) σ (.bool b) := mk_c fun _ => .bl b
theorem mk_int {i : Int} : Mk vw H0 (tC (.int i)) σ (.int i) := mk_c fun _ => .int i
theorem mk_str {z : Str} (h : z.length ≤ 1000) : Mk vw H0 (tC (.str z)) σ (.str z) := mk_c fun _ => .str h
theorem mk_neg {i : Int} : Mk vw H0 (tUn (rU fun i => .int (-i)) (tC (.int i))) σ (.int (-i)) := fun H Q s k => ⟨i, rfl, k H _ (Same.refl H) (.int _)⟩
theorem mk_var (V0 : Vw H0 vw) {i : Nat} {v : V} (hv : σ[i]? = some (some v)) (h : Td true (vw H0) v d) : Mk vw H0 (tVar i) σ d := fun H Q s k => ⟨v, hv, k H v (Same.refl H) (h.mono (V0.mono H0 H (Same.refl H0) s))⟩
theorem mkA_nil : MkA vw H0 tNil σ [] := fun H Q s k => k H [] (Same.refl H) .nil
theorem mkA_cons (V0 : Vw H0 vw) (h : Mk vw H0 te σ d) (r : MkA vw H0 ta σ ds) : MkA vw H0 (tCons te ta) σ (d :: ds) := fun H Q s k =>
  h H _ s fun H1 x s1 t1 => r H1 _ (s.trans s1) fun H2 xs s2 t2 => k H2 (x :: xs) (s1.trans s2) (.cons (t1.mono (V0.mono H1 H2 (s.trans s1) s2)) t2)
theorem small_line {n : Nat} (h : n ≤ 1000) : n ≤ sizeLine := by rw [sizeLine_eq]; omega
theorem mk_tup (V0 : Vw H0 vw) (hn : ds.length ≤ 1000) (h : MkA vw H0 ta σ ds) : Mk vw H0 (tTup ta) σ (.tuple ds) := fun H Q s k =>
  h H _ s fun H1 xs s1 t1 => ⟨small_line (by rw [t1.length]; exact hn), fun p np => k _ _ (s1.trans (same_upd np)) (.tup (V0.new H1 p _ (s.trans s1) np) (by rw [t1.length]; exact hn) (t1.mono (V0.mono _ _ (s.trans s1) (same_upd np))))⟩
theorem mk_lst (V0 : Vw H0 vw) (hn : ds.length ≤ 1000) (h : MkA vw H0 ta σ ds) : Mk vw H0 (tLst ta) σ (.list ds) := fun H Q s k =>
  h H _ s fun H1 xs s1 t1 => ⟨small_line (by rw [t1.length]; exact hn), fun p np => k _ _ (s1.trans (same_upd np)) (.lst rfl (V0.new H1 p _ (s.trans s1) np) (by rw [t1.length]; exact hn) (t1.mono (V0.mono _ _ (s.trans s1) (same_upd np))))⟩
theorem TdAll.append {L : Bool} {H : Hp} : ∀ {ds es : List PyData} {vs us : List V}, TdAll L H vs ds → TdAll L H us es → TdAll L H (vs ++ us) (ds ++ es)
  | [], _, _, _, r, q => by cases r; exact q
  | d :: ds, _, _, _, r, q => by
    cases r with
    | cons h r => exact .cons h (TdAll.append r q)
theorem TdAll.rep {L : Bool} {H : Hp} {ds : List PyData} {vs : List V} (r : TdAll L H vs ds) : ∀ k : Nat, TdAll L H (List.replicate k vs).flatten (List.replicate k ds).flatten
  | 0 => .nil
  | k + 1 => by
    rw [List.replicate_succ, List.replicate_succ, List.flatten_cons, List.flatten_cons]
    exact r.append (TdAll.rep r k)
theorem TdAll.drop {L : Bool} {H : Hp} : ∀ (k : Nat) {ds : List PyData} {vs : List V}, TdAll L H vs ds → TdAll L H (vs.drop k) (ds.drop k)
  | 0, _, _, r => r
  | k + 1, [], _, r => by cases r; exact .nil
  | k + 1, d :: ds, _, r => by
    cases r with
    | cons h r => exact TdAll.drop k r
theorem TdAll.take {L : Bool} {H : Hp} : ∀ (k : Nat) {ds : List PyData} {vs : List V}, TdAll L H vs ds → TdAll L H (vs.take k) (ds.take k)
  | 0, _, _, r => .nil
  | k + 1, [], _, r => by cases r; exact .nil
  | k + 1, d :: ds, _, r => by
    cases r with
    | cons h r => exact .cons h (TdAll.take k r)
theorem mk_repT (V0 : Vw H0 vw) {k : Int} (h1 : 2 ≤ k) (h2 : k ≤ 1000) (hn : ds ≠ []) (hl : (List.replicate k.toNat ds).flatten.length ≤ 1000) (h : Mk vw H0 te σ (.tuple ds)) : Mk vw H0 (tOp (rRepT K) te (tC (.int k))) σ (.tuple (List.replicate k.toNat ds).flatten) := fun H Q s c =>
  h H _ s fun H1 x s1 t1 => by
    cases t1 with
    | @tup a xs _ e nx r =>
      refine ⟨a, k, xs, rfl, rfl, .inl (.inl (V0.sub _ _ _ e)), fun z => ?_, h1, h2, nx, fun p np => ?_⟩
      · have := r.length
        rw [z] at this
        exact hn (List.eq_nil_of_length_eq_zero this.symm)
      · have rr := r.rep k.toNat
        exact c _ _ (s1.trans (same_upd np)) (.tup (V0.new H1 p _ (s.trans s1) np) (by rw [rr.length]; exact hl) (rr.mono (V0.mono _ _ (s.trans s1) (same_upd np))))
theorem mk_catT (V0 : Vw H0 vw) (hn : ds ≠ []) (hl : ds.length + es.length ≤ 1000) (h : Mk vw H0 te σ (.tuple ds)) (h' : Mk vw H0 tf σ (.tuple es)) : Mk vw H0 (tOp (rCatT K) te tf) σ (.tuple (ds ++ es)) := fun H Q s c =>
  h H _ s fun H1 x s1 t1 => h' H1 _ (s.trans s1) fun H2 y s2 t2 => by
    have t1 := t1.mono (V0.mono H1 H2 (s.trans s1) s2)
    cases t1 with
    | @tup a xs _ e nx r =>
      cases t2 with
      | @tup b ys _ e' ny r' =>
        have l1 := r.length
        have l2 := r'.length
        refine ⟨a, b, xs, ys, rfl, rfl, .inl (.inl (V0.sub _ _ _ e)), .inl (.inl (V0.sub _ _ _ e')), fun z => ?_, small_line (by omega), fun z => ?_, fun _ p np => ?_⟩
        · rw [z] at l1
          exact hn (List.eq_nil_of_length_eq_zero l1.symm)
        · subst z
          cases r'
          rw [List.append_nil] at *
          exact c _ _ (s1.trans s2) (.tup e nx r)
        · have rr := r.append r'
          exact c _ _ ((s1.trans s2).trans (same_upd np)) (.tup (V0.new H2 p _ ((s.trans s1).trans s2) np) (by rw [rr.length, List.length_append]; exact hl) (rr.mono (V0.mono _ _ ((s.trans s1).trans s2) (same_upd np))))
theorem mk_listT (V0 : Vw H0 vw) {r : List V → Hp → VK → Prop} (hr : ∀ a xs H Q, (SqT K H a xs ∧ ∀ l, H l = none → Q (.ref l) (upd H l (.lst xs))) → r [.ref a] H Q) (h : Mk vw H0 te σ (.tuple ds)) : Mk vw H0 (tCB r (tCons te tNil)) σ (.list ds) := fun H Q s c =>
  h H _ s fun H1 x s1 t1 => by
    cases t1 with
    | @tup a xs _ e nx q =>
      exact hr a xs H1 Q ⟨.inl (.inl (V0.sub _ _ _ e)), fun p np => c _ _ (s1.trans (same_upd np)) (.lst rfl (V0.new H1 p _ (s.trans s1) np) nx (q.mono (V0.mono _ _ (s.trans s1) (same_upd np))))⟩
def cutD (ds : List PyData) (lo hi : Option Int) : List PyData := (ds.drop (HT.sIx ds.length 0 lo)).take (HT.sIx ds.length ds.length hi - HT.sIx ds.length 0 lo)
theorem cutV_cut {L : Bool} {H : Hp} {vs : List V} (r : TdAll L H vs ds) (lo hi : Option Int) : TdAll L H (cutV vs lo hi) (cutD ds lo hi) := by
  unfold cutV cutD
  rw [r.length]
  exact (r.drop _).take _
def MkO (to : TO) (σ : L2.St) (o : Option Int) : Prop := ∀ H (Q : Option Int → Hp → Prop), Q o H → to σ H Q
theorem mkO_none : MkO tNoPart σ none := fun H Q h => h
theorem mkO_int {i : Int} : MkO (tPart (tC (.int i))) σ (some i) := fun H Q h => ⟨i, rfl, h⟩
theorem mkO_var {k : Nat} {i : Int} (hv : σ[k]? = some (some (.int i))) : MkO (tPart (tVar k)) σ (some i) := fun H Q h => ⟨_, hv, i, rfl, h⟩
theorem mkO_add {k : Nat} {i j : Int} (hv : σ[k]? = some (some (.int i))) : MkO (tPart (tOp (rI0 fun i j => .int (i + j)) (tVar k) (tC (.int j)))) σ (some (i + j)) := fun H Q h => ⟨_, hv, i, j, rfl, rfl, _, rfl, h⟩
theorem mk_slice (V0 : Vw H0 vw) {tl th : TO} {lo hi : Option Int} (hl : MkO tl σ lo) (hh : MkO th σ hi) (hw : ¬ (HT.sIx ds.length 0 lo = 0 ∧ HT.sIx ds.length ds.length hi = ds.length)) (hn : ds.length ≤ 1000) (h : Mk vw H0 te σ (.tuple ds)) :
    Mk vw H0 (tSl (rSlT K) te tl th) σ (.tuple (cutD ds lo hi)) := fun H Q s c =>
  h H _ s fun H1 x s1 t1 => hl H1 _ (hh H1 _ (by
    cases t1 with
    | @tup a xs _ e nx q =>
      have l1 := q.length
      refine ⟨a, xs, rfl, .inl (.inl (V0.sub _ _ _ e)), by rw [l1]; exact hw, fun p np => ?_⟩
      have rr := cutV_cut q lo hi
      exact c _ _ (s1.trans (same_upd np)) (.tup (V0.new H1 p _ (s.trans s1) np) (Nat.le_trans (cutV_length xs lo hi) nx) (rr.mono (V0.mono _ _ (s.trans s1) (same_upd np))))))
theorem hide_but {l : Addr} {H H' : Hp} (s : SameBut l H H') : Same (hide l H) (hide l H') := fun b o e => by
  unfold hide at e ⊢
  by_cases c : b = l
  · rw [if_pos c] at e; cases e
  · rw [if_neg c] at e ⊢
    exact s b o c e
theorem hide_new {l : Addr} {H : Hp} {o : HO} (n : H l = none) : Same H (hide l (upd H l o)) := fun b x e => by
  have c : b ≠ l := ne_of_none e n
  unfold hide
  rw [if_neg c, upd_ne c]
  exact e
theorem ext_mk {l : Addr} {xs : List V} {Q : VK} (hl : H0 l = some (.lst xs)) (A : TdAll true (hide l H0) xs ds) (hx : ds.length + es.length ≤ 1000) (M : MkA (hide l) H0 ta σ es)
    (k : ∀ H' ys, SameBut l H0 H' → H' l = some (.lst ys) → TdAll true (hide l H') ys (ds ++ es) → Q .non H') : tCons (tLst ta) tNil σ H0 fun vs H2 => rExtend (.ref l) vs H2 Q :=
  M H0 _ (Same.refl H0) fun H1 zs s1 t1 => ⟨small_line (by rw [t1.length]; omega), fun b nb => by
    have l1 := A.length
    have l2 := t1.length
    have hl1 := s1 _ _ hl
    have bl : b ≠ l := fun z => by rw [z, hl1] at nb; cases nb
    have sb : SameBut l H0 (upd (upd H1 b (.lst zs)) l (.lst (xs ++ zs))) := fun c o hc e => by
      rw [upd_ne hc, upd_ne (ne_of_none (s1 _ _ e) nb)]
      exact s1 _ _ e
    refine ⟨l, b, xs, zs, rfl, rfl, by rw [upd_ne (Ne.symm bl)]; exact hl1, upd_same, small_line (by omega), k _ _ sb upd_same ?_⟩
    refine (A.mono (hide_but sb)).append (t1.mono (hide_but fun c o hc e => ?_))
    rw [upd_ne hc, upd_ne (ne_of_none e nb)]
    exact e⟩
theorem app_mk {l : Addr} {xs : List V} {Q : VK} (hl : H0 l = some (.lst xs)) (A : TdAll true (hide l H0) xs ds) (hx : ds.length + 1 ≤ 1000) (M : Mk (hide l) H0 te σ d)
    (k : ∀ H' ys, SameBut l H0 H' → H' l = some (.lst ys) → TdAll true (hide l H') ys (ds ++ [d]) → Q .non H') : tCons te tNil σ H0 fun vs H2 => rAppend (.ref l) vs H2 Q :=
  M H0 _ (Same.refl H0) fun H1 z s1 t1 => by
    have l1 := A.length
    have hl1 := s1 _ _ hl
    have sb : SameBut l H0 (upd H1 l (.lst (xs ++ [z]))) := fun c o hc e => by
      rw [upd_ne hc]
      exact s1 _ _ e
    refine ⟨l, xs, z, rfl, rfl, hl1, by rw [sizeLine_eq]; omega, k _ _ sb upd_same ?_⟩
    refine (A.mono (hide_but sb)).append (.cons (t1.mono (hide_but fun c o hc e => ?_)) .nil)
    rw [upd_ne hc]
    exact e
theorem Mk.go {Q : VK} (M : Mk vw H0 te σ d) (k : ∀ H' x, Same H0 H' → Td true (vw H') x d → Q x H') : te σ H0 Q := M H0 Q (Same.refl H0) k
theorem lst_go {Q : VK} (M : MkA id H0 ta σ ds) (hn : ds.length ≤ 1000) (k : ∀ H' l xs, Same H0 H' → H0 l = none → H' l = some (.lst xs) → TdAll true (hide l H') xs ds → Q (.ref l) H') : tLst ta σ H0 Q :=
  M H0 _ (Same.refl H0) fun H1 xs s1 t1 => ⟨small_line (by rw [t1.length]; exact hn), fun l nl => k _ l xs (s1.trans (same_upd nl)) (s1.free nl) upd_same (t1.mono (hide_new nl))⟩
theorem tup_go {Q : VK} (M : MkA id H0 ta σ ds) (hn : ds.length ≤ 1000) (k : ∀ H' l xs, Same H0 H' → H' l = some (.tup xs) → TdAll true H' xs ds → Q (.ref l) H') : tTup ta σ H0 Q :=
  M H0 _ (Same.refl H0) fun H1 xs s1 t1 => ⟨small_line (by rw [t1.length]; exact hn), fun l nl => k _ l xs (s1.trans (same_upd nl)) upd_same (t1.mono (same_upd nl))⟩
theorem seq_asg {g : TG} {B : TS} {D : Ends} {H : Hp} (h : te σ H fun x H1 => g x σ H1 fun σ' H' => B D σ' H') : tSeq (tAsg te g) B D σ H := h
end
end Kin

set_option maxHeartbeats 4000000
/-! comprehensions whose items are told by a property that stays -/
namespace Kin
open PySem PySem.Spec PyProof.Rows L2
section
variable {J : It} {n : Nat} {G : Hp → Prop} {Y : Nat → Hp → V → Hp → Prop}
theorem same_hide {D : Addr} {H H' : Hp} (s : Same H H') : Same (hide D H) (hide D H') := hide_but s.but
theorem hide_upd {D : Addr} {H : Hp} {o : HO} : hide D (upd H D o) = hide D H := by
  funext b
  unfold hide
  by_cases c : b = D
  · rw [if_pos c, if_pos c]
  · rw [if_neg c, if_neg c, upd_ne c]
theorem hide_free {D : Addr} {H : Hp} (n : H D = none) : hide D H = H := by
  funext b
  unfold hide
  by_cases c : b = D
  · rw [if_pos c, c, n]
  · rw [if_neg c]
theorem hide_at {D b : Addr} {H : Hp} {o : HO} (c : b ≠ D) (h : H b = some o) : hide D H b = some o := by
  unfold hide
  rw [if_neg c]
  exact h
theorem lc_gen (w : Walk J n G Y) {g : TG} {te : TE} {vs : List Nat} {σ : L2.St} {H1 : Hp} {D : Addr} {Qd : Hp → Prop} {PY : Nat → V → Hp → Prop} (hn : n ≤ 1000000) (hm : ∀ i y H H', PY i y H → Same H H' → PY i y H') (nD : H1 D = none)
    (hG : ∀ H, Same H1 H → G H)
    (hs : ∀ i x H H', i < n → Same H1 H → (∃ acc, H D = some (.lst acc)) → Y i H x H' → ∀ Q' : VK, (∀ y H4, Same H H4 → PY i y (hide D H4) → Q' y H4) → g x (wipe σ vs) H' fun σ2 H2 => wipe σ2 vs = wipe σ vs ∧ te σ2 H2 Q')
    (hd : ∀ H' ys, Same H1 H' → H' D = some (.lst ys) → ys.length = n → (∀ i y, ys[i]? = some y → PY i y (hide D H')) → Qd H') :
    ∃ W : Nat → Nat → Hp → Prop, (∃ m, W 0 m (upd H1 D (.lst []))) ∧ ∀ i m H, W i m H →
      (J.stop i H ∧ Qd H) ∨ (J.go i H ∧ ∃ Nx : Hp → Prop, (∀ H', Nx H' → ∃ m', m' < m ∧ W (i + 1) m' H') ∧ ∀ x H', J.yld i H x H' → g x (wipe σ vs) H' fun σ2 H2 => wipe σ2 vs = wipe σ vs ∧ tYes σ2 H2 fun b H3 =>
        if b = true then te σ2 H3 fun y H4 => ∃ acc, H4 D = some (.lst acc) ∧ acc.length < sizeLine ∧ Nx (upd H4 D (.lst (acc ++ [y]))) else Nx H3) := by
  refine lc_itY w (fun i H => Same H1 H ∧ ∃ ys : List V, H D = some (.lst ys) ∧ ys.length = i ∧ ∀ j y, ys[j]? = some y → PY j y (hide D H)) ?_ (fun i H _ p => hG H p.1) ?_ ?_
  · exact ⟨same_upd nD, [], upd_same, rfl, fun j y e => by cases e⟩
  · rintro i x H H' hi ⟨s, ys, eD, hl, hy⟩ y
    refine hs i x H H' hi s ⟨ys, eD⟩ y _ fun z H4 s4 pz => ?_
    have e4 := s4 _ _ eD
    refine ⟨ys, e4, by rw [sizeLine_eq]; omega, same_set (s.trans s4) nD, ys ++ [z], upd_same, by rw [List.length_append, hl]; rfl, fun j u hj => ?_⟩
    rw [hide_upd]
    by_cases hji : j < ys.length
    · rw [List.getElem?_append_left hji] at hj
      exact hm _ _ _ _ (hy j u hj) (same_hide s4)
    · have hj' : j = ys.length := by
        have := (List.getElem?_eq_some_iff.mp hj).1
        rw [List.length_append] at this
        simp at this
        omega
      subst hj'
      rw [List.getElem?_append_right (by omega)] at hj
      simp at hj
      subst hj
      rw [hl]
      exact pz
  · rintro H ⟨s, ys, eD, hl, hy⟩
    exact hd H ys s eD hl hy
/-- the items are the texts zs -/
theorem lc_strs (w : Walk J n G Y) {g : TG} {te : TE} {vs : List Nat} {σ : L2.St} {H1 : Hp} {D : Addr} {Qd : Hp → Prop} (zs : List Str) (hz : zs.length = n) (hn : n ≤ 1000000) (nD : H1 D = none) (hG : ∀ H, Same H1 H → G H)
    (hs : ∀ i x H H', i < n → Same H1 H → Y i H x H' → ∀ Q' : VK, (∀ H4 z, Same H H4 → zs[i]? = some z → Q' (.str z) H4) → g x (wipe σ vs) H' fun σ2 H2 => wipe σ2 vs = wipe σ vs ∧ te σ2 H2 Q')
    (hd : ∀ H', Same H1 H' → H' D = some (.lst (zs.map V.str)) → Qd H') :
    ∃ W : Nat → Nat → Hp → Prop, (∃ m, W 0 m (upd H1 D (.lst []))) ∧ ∀ i m H, W i m H →
      (J.stop i H ∧ Qd H) ∨ (J.go i H ∧ ∃ Nx : Hp → Prop, (∀ H', Nx H' → ∃ m', m' < m ∧ W (i + 1) m' H') ∧ ∀ x H', J.yld i H x H' → g x (wipe σ vs) H' fun σ2 H2 => wipe σ2 vs = wipe σ vs ∧ tYes σ2 H2 fun b H3 =>
        if b = true then te σ2 H3 fun y H4 => ∃ acc, H4 D = some (.lst acc) ∧ acc.length < sizeLine ∧ Nx (upd H4 D (.lst (acc ++ [y]))) else Nx H3) := by
  refine lc_gen w (PY := fun i y _ => ∃ z, zs[i]? = some z ∧ y = .str z) hn (fun _ _ _ _ p _ => p) nD hG (fun i x H H' hi s _ y Q' hq => hs i x H H' hi s y Q' fun H4 z s4 ez => hq _ _ s4 ⟨z, ez, rfl⟩) fun H' ys s eD hl hy => ?_
  have e : ys = zs.map V.str := by
    refine List.ext_getElem? fun i => ?_
    rw [List.getElem?_map]
    cases e1 : ys[i]? with
    | none =>
      have := List.getElem?_eq_none_iff.mp e1
      rw [List.getElem?_eq_none (by omega)]
      rfl
    | some y =>
      obtain ⟨z, ez, rfl⟩ := hy i y e1
      rw [ez]
      rfl
  exact hd H' s (by rw [eD, e])
theorem tdAll_of {L : Bool} {H : Hp} : ∀ {ds : List PyData} {ys : List V}, ys.length = ds.length → (∀ (i : Nat) (y : V), ys[i]? = some y → ∃ d, ds[i]? = some d ∧ Td L H y d) → TdAll L H ys ds
  | [], [], _, _ => .nil
  | d :: ds, y :: ys, hl, h => by
    obtain ⟨d', e, t⟩ := h 0 y rfl
    cases e
    exact .cons t (tdAll_of (by simpa using hl) fun i z e => h (i + 1) z e)
  | [], _ :: _, hl, _ => by cases hl
  | _ :: _, [], hl, _ => by cases hl
/-- the items have the data ds -/
theorem lc_tds (w : Walk J n G Y) {g : TG} {te : TE} {vs : List Nat} {σ : L2.St} {H1 : Hp} {D : Addr} {Qd : Hp → Prop} (ds : List PyData) (hz : ds.length = n) (hn : n ≤ 1000000) (nD : H1 D = none) (hG : ∀ H, Same H1 H → G H)
    (hs : ∀ i x H H', i < n → Same H1 H → (∃ acc, H D = some (.lst acc)) → Y i H x H' → ∀ Q' : VK, (∀ H4 y d, Same H H4 → ds[i]? = some d → Td true (hide D H4) y d → Q' y H4) → g x (wipe σ vs) H' fun σ2 H2 => wipe σ2 vs = wipe σ vs ∧ te σ2 H2 Q')
    (hd : ∀ H' ys, Same H1 H' → H' D = some (.lst ys) → TdAll true (hide D H') ys ds → Qd H') :
    ∃ W : Nat → Nat → Hp → Prop, (∃ m, W 0 m (upd H1 D (.lst []))) ∧ ∀ i m H, W i m H →
      (J.stop i H ∧ Qd H) ∨ (J.go i H ∧ ∃ Nx : Hp → Prop, (∀ H', Nx H' → ∃ m', m' < m ∧ W (i + 1) m' H') ∧ ∀ x H', J.yld i H x H' → g x (wipe σ vs) H' fun σ2 H2 => wipe σ2 vs = wipe σ vs ∧ tYes σ2 H2 fun b H3 =>
        if b = true then te σ2 H3 fun y H4 => ∃ acc, H4 D = some (.lst acc) ∧ acc.length < sizeLine ∧ Nx (upd H4 D (.lst (acc ++ [y]))) else Nx H3) :=
  lc_gen w (PY := fun i y H => ∃ d, ds[i]? = some d ∧ Td true H y d) hn (fun _ _ _ _ ⟨d, e, t⟩ s => ⟨d, e, t.mono s⟩) nD hG (fun i x H H' hi s a y Q' hq => hs i x H H' hi s a y Q' fun H4 y d s4 ez td => hq _ _ s4 ⟨d, ez, td⟩) fun H' ys s eD hl hy =>
    hd H' ys s eD (tdAll_of (by omega) hy)
/-- the items are the things zs, known ahead -/
theorem lc_vals (w : Walk J n G Y) {g : TG} {te : TE} {vs : List Nat} {σ : L2.St} {H1 : Hp} {D : Addr} {Qd : Hp → Prop} (zs : List V) (hz : zs.length = n) (hn : n ≤ 1000000) (nD : H1 D = none) (hG : ∀ H, Same H1 H → G H)
    (hs : ∀ i x H H', i < n → Same H1 H → Y i H x H' → ∀ Q' : VK, (∀ H4 z, Same H H4 → zs[i]? = some z → Q' z H4) → g x (wipe σ vs) H' fun σ2 H2 => wipe σ2 vs = wipe σ vs ∧ te σ2 H2 Q')
    (hd : ∀ H', Same H1 H' → H' D = some (.lst zs) → Qd H') :
    ∃ W : Nat → Nat → Hp → Prop, (∃ m, W 0 m (upd H1 D (.lst []))) ∧ ∀ i m H, W i m H →
      (J.stop i H ∧ Qd H) ∨ (J.go i H ∧ ∃ Nx : Hp → Prop, (∀ H', Nx H' → ∃ m', m' < m ∧ W (i + 1) m' H') ∧ ∀ x H', J.yld i H x H' → g x (wipe σ vs) H' fun σ2 H2 => wipe σ2 vs = wipe σ vs ∧ tYes σ2 H2 fun b H3 =>
        if b = true then te σ2 H3 fun y H4 => ∃ acc, H4 D = some (.lst acc) ∧ acc.length < sizeLine ∧ Nx (upd H4 D (.lst (acc ++ [y]))) else Nx H3) := by
  refine lc_gen w (PY := fun i y _ => zs[i]? = some y) hn (fun _ _ _ _ p _ => p) nD hG (fun i x H H' hi s _ y Q' hq => hs i x H H' hi s y Q' fun H4 z s4 ez => hq _ _ s4 ez) fun H' ys s eD hl hy => ?_
  have e : ys = zs := by
    refine List.ext_getElem? fun i => ?_
    cases e1 : ys[i]? with
    | none =>
      have := List.getElem?_eq_none_iff.mp e1
      rw [List.getElem?_eq_none (by omega)]
    | some y => exact (hy i y e1).symm
  exact hd H' s (by rw [eD, e])
end
end Kin

set_option maxHeartbeats 4000000
/-! lines and words; the numbers' dict -/
namespace Kin
open PySem PySem.Spec PyProof.Rows L2
def linesTxt (ls : List (List Str)) : Str := Txt.join "" (ls.map fun ws => Txt.join " " ws ++ "\n")
def lnsOf (z : Str) : List (List Str) := ((Txt.split z "\n").dropLast).map fun l => Txt.split l " "
theorem sum_ge : ∀ {l : List Nat} {x : Nat}, x ∈ l → x ≤ l.sum
  | y :: l, x, h => by
    rw [List.sum_cons]
    rcases List.mem_cons.mp h with rfl | h
    · omega
    · have := sum_ge h
      omega
theorem sum_drop : ∀ l : List Nat, l.dropLast.sum ≤ l.sum
  | [] => Nat.le_refl _
  | [x] => by simp
  | x :: y :: l => by
    have := sum_drop (y :: l)
    rw [List.dropLast_cons_cons, List.sum_cons, List.sum_cons]
    omega
theorem lines_bounds {z : Str} (h : z.length ≤ 1000) : (lnsOf z).length ≤ 1000 ∧ ∀ l ∈ lnsOf z, 1 ≤ l.length ∧ l.length ≤ 1000 ∧ ∀ w ∈ l, w.length ≤ 1000 := by
  have h1 := split_weight z "\n" (by decide +kernel)
  have h2 := PyProof.Rows.split_pos z "\n"
  refine ⟨?_, fun l hl => ?_⟩
  · unfold lnsOf
    rw [List.length_map, List.length_dropLast]
    omega
  · obtain ⟨x, hx, rfl⟩ := List.mem_map.mp hl
    have hx' : x ∈ Txt.split z "\n" := List.dropLast_subset _ hx
    have hn : 2 ≤ (Txt.split z "\n").length := by
      have := List.length_pos_of_mem hx
      rw [List.length_dropLast] at this
      omega
    have h3 : x.length ≤ ((Txt.split z "\n").map (·.length)).sum := sum_ge (List.mem_map_of_mem hx')
    have h4 := split_weight x " " (by decide +kernel)
    have h5 := PyProof.Rows.split_pos x " "
    refine ⟨h5, by omega, fun w hw => ?_⟩
    have := part_short hw
    omega
theorem cut_init {xs : List V} : cutV xs none (some (-1)) = xs.dropLast := by
  have e1 : HT.sIx xs.length xs.length (some (-1)) = xs.length - 1 := by
    show (if (-1 : Int) < 0 then ((-1 : Int) + (xs.length : Int)).toNat else min (-1 : Int).toNat xs.length) = _
    rw [if_pos (by decide)]
    omega
  have e0 : HT.sIx xs.length 0 none = 0 := rfl
  unfold cutV
  rw [e1, e0, List.drop_zero, Nat.sub_zero, List.dropLast_eq_take]
theorem cut_tail {xs : List V} : cutV xs (some 1) none = xs.drop 1 := by
  have e1 : HT.sIx xs.length 0 (some 1) = min 1 xs.length := HT.sIx_nat xs.length 0 1
  have e0 : HT.sIx xs.length xs.length none = xs.length := rfl
  unfold cutV
  rw [e1, e0]
  cases xs with
  | nil => rfl
  | cons x r =>
    rw [show min 1 (x :: r).length = 1 by rw [List.length_cons]; omega]
    exact List.take_of_length_le (by rw [List.length_drop]; exact Nat.le_refl _)
theorem cut_drop {xs : List V} {k : Nat} (h : k ≤ xs.length) : cutV xs (some (k : Int)) none = xs.drop k := by
  have e1 : HT.sIx xs.length 0 (some (k : Int)) = k := by rw [HT.sIx_nat xs.length 0 k]; omega
  have e0 : HT.sIx xs.length xs.length none = xs.length := rfl
  unfold cutV
  rw [e1, e0]
  exact List.take_of_length_le (by rw [List.length_drop]; exact Nat.le_refl _)
theorem cut_dropG {xs : List V} {k : Nat} : cutV xs (some (k : Int)) none = xs.drop k := by
  by_cases h : k ≤ xs.length
  · exact cut_drop h
  · have e1 : HT.sIx xs.length 0 (some (k : Int)) = xs.length := by rw [HT.sIx_nat xs.length 0 k]; omega
    unfold cutV
    rw [e1, List.drop_length, List.drop_of_length_le (by omega), List.take_nil]
theorem cut_take {xs : List V} {k : Nat} : cutV xs none (some (k : Int)) = xs.take k := by
  have e1 : HT.sIx xs.length xs.length (some (k : Int)) = min k xs.length := HT.sIx_nat xs.length xs.length k
  have e0 : HT.sIx xs.length 0 none = 0 := rfl
  unfold cutV
  rw [e1, e0, List.drop_zero, Nat.sub_zero]
  by_cases h : k ≤ xs.length
  · rw [Nat.min_eq_left h]
  · rw [Nat.min_eq_right (by omega), List.take_of_length_le (Nat.le_refl _), List.take_of_length_le (by omega)]
/-! ### the texts of the numbers 0 to 7 -/
def numI (s : Str) : Option Int := (List.range 8).findSome? fun (i : Nat) => if toString (i : Int) = s then some (i : Int) else none
def numsK : List (Key × V) := (List.range 8).map fun (i : Nat) => ((Sum.inr (toString (i : Int)) : Key), V.int (i : Int))
theorem valV_nums (s : Str) : valV numsK (Sum.inr s : Key) = (numI s).map V.int := by
  unfold valV numsK numI
  generalize List.range 8 = l
  induction l with
  | nil => rfl
  | cons i l ih =>
    rw [List.map_cons, List.find?_cons, List.findSome?_cons]
    by_cases h : toString (i : Int) = s
    · rw [if_pos h]
      have : decide ((Sum.inr (toString (i : Int)) : Key) = Sum.inr s) = true := decide_eq_true (by rw [h])
      simp only [this]
      rfl
    · rw [if_neg h]
      have : decide ((Sum.inr (toString (i : Int)) : Key) = Sum.inr s) = false := decide_eq_false (fun z => h (Sum.inr.inj z))
      simp only [this]
      exact ih
def optD : Option Int → PyData
  | none => .none
  | some i => .int i
def optI : Option Int → V
  | none => .non
  | some i => .int i
theorem td_opt {L : Bool} {H : Hp} : ∀ o : Option Int, Td L H (optI o) (optD o)
  | none => .non
  | some i => .int i
theorem get_opt (o : Option Int) : (o.map V.int).getD .non = optI o := by cases o <;> rfl
/-! ### a dict's comprehension over a walk -/
section
variable {J : It} {n : Nat} {G : Hp → Prop} {Y : Nat → Hp → V → Hp → Prop}
theorem dc_it (w : Walk J n G Y) {g : TG} {tt : TT} {tk tv : TE} {vs : List Nat} {σ : L2.St} {H1 : Hp} {D : Addr} {Qd : Hp → Prop} (Pv : Nat → Hp → Prop) (h0 : Pv 0 (upd H1 D (.dK []))) (hG : ∀ i H, i ≤ n → Pv i H → G H)
    (hs : ∀ i x H H', i < n → Pv i H → Y i H x H' → g x (wipe σ vs) H' fun σ2 H2 => wipe σ2 vs = wipe σ vs ∧ tt σ2 H2 fun b H3 =>
      if b = true then tk σ2 H3 fun y H4 => tv σ2 H4 fun z H5 => ∃ kvs k, y = kV k ∧ H5 D = some (.dK kvs) ∧ kvs.length < sizeLine ∧ Pv (i + 1) (upd H5 D (.dK (putK kvs k z))) else Pv (i + 1) H3) (hd : ∀ H, Pv n H → Qd H) :
    ∃ W : Nat → Nat → Hp → Prop, (∃ m, W 0 m (upd H1 D (.dK []))) ∧ ∀ i m H, W i m H →
      (J.stop i H ∧ Qd H) ∨ (J.go i H ∧ ∃ Nx : Hp → Prop, (∀ H', Nx H' → ∃ m', m' < m ∧ W (i + 1) m' H') ∧ ∀ x H', J.yld i H x H' → g x (wipe σ vs) H' fun σ2 H2 => wipe σ2 vs = wipe σ vs ∧ tt σ2 H2 fun b H3 =>
        if b = true then tk σ2 H3 fun y H4 => tv σ2 H4 fun z H5 => ∃ kvs k, y = kV k ∧ H5 D = some (.dK kvs) ∧ kvs.length < sizeLine ∧ Nx (upd H5 D (.dK (putK kvs k z))) else Nx H3) := by
  refine ⟨fun i m H => m = n - i ∧ i ≤ n ∧ Pv i H, ⟨n, by simp, Nat.zero_le _, h0⟩, ?_⟩
  rintro i m H ⟨rfl, hi, p⟩
  have q := hG i H hi p
  by_cases hlt : i < n
  · refine .inr ⟨w.goes i H hlt q, Pv (i + 1), fun H' p' => ⟨n - (i + 1), by omega, rfl, hlt, p'⟩, fun x H' y => hs i x H H' hlt p (w.yields i H x H' hlt q y)⟩
  · have e : i = n := by omega
    subst e
    exact .inl ⟨w.stops H q, hd H p⟩
end
theorem nums_put : ∀ i : _root_.Fin 8, putK (numsK.take i.val) (Sum.inr (toString (i.val : Int)) : Key) (.int (i.val : Int)) = numsK.take (i.val + 1) := by
  intro i
  have h : ∀ i : _root_.Fin 8, (numsK.take i.val).any (fun kv => decide (kv.1 = (Sum.inr (toString (i.val : Int)) : Key))) = false := by decide +kernel
  unfold putK
  rw [if_neg (by rw [h i]; exact Bool.false_ne_true), List.take_add_one]
  congr 1
  unfold numsK
  rw [List.getElem?_map, List.getElem?_range i.isLt]
  rfl
/-! ### what is read -/
def standR : List Str → PyData
  | [] => .tuple []
  | w :: r => .tuple (.str (if w = "-" then "" else w) :: r.map fun s => optD (numI s))
def parR (s : Str) : PyData := if s = "-" then .none else .str s
def persR (ws : List Str) : PyData := .tuple ((ws.take 2).map PyData.str ++ (ws.drop 2).map parR)
def speechR (z : Str) : PyData :=
  match lnsOf z with
  | [] => .none
  | l :: ls => .tuple [optD (numI (l.getD 1 "")), optD (numI (l.getD 3 "")), .tuple (ls.map standR)]
def familyR (z : Str) : PyData := .tuple ((lnsOf z).map persR)
def headR (z : Str) : Bool :=
  match lnsOf z with
  | [] => false
  | l :: _ => decide (l.length = 4)
/-! ### what is written -/
def numW : PyData → Str
  | .int i => toString i
  | _ => ""
def wordW (w : Str) : Str := if w = "" then "-" else w
def standW : PyData → List Str
  | .tuple (.str w :: ns) => wordW w :: ns.map numW
  | _ => []
def speechW : PyData → Str
  | .tuple [he, she, .tuple ss] => linesTxt (["he", numW he, "she", numW she] :: ss.map standW)
  | _ => ""
def partW : PyData → Str
  | .str s => wordW s
  | _ => "-"
def persW : PyData → List Str
  | .tuple ps => ps.map partW
  | _ => []
def familyW : PyData → Str
  | .tuple ps => linesTxt (ps.map persW)
  | _ => ""
end Kin

set_option maxHeartbeats 4000000
/-! a, *b = a list -/
namespace Kin
open PySem PySem.Spec PyProof.Rows L2
section
variable {prog : Program} {w : World} {A : Around} {E : Value → Shared → Prop} {s : Shared}
theorem collect_lstFrom {it t : Addr} {items : Array Value} {k : Nat} {Q : List Value → Shared → Prop} (hh : A.handled = none) (hit : s.heap.IsListIter it t k) (ht : s.heap.IsList t items) (hne : t ≠ it) (hk : k ≤ items.size) (hn : items.size ≤ sizeLine)
    (hQ : ∀ h' tk, (∀ b o, b ≠ it → s.heap.get? b = some o → h'.get? b = some o) → Q (items.toList.drop k) { s with heap := h', toks := tk }) :
    wpAny (model prog w) A (collect (.ref it)) Q E s := by
  have W0 := Walks.list (prog := prog) (w := w) (A := A.in1) hh it t hne items
  have W : Walks prog w A.in1 it [it, t] [it] (items.size - k) (fun i v => items[k + i]? = some v) (fun i h => h.IsListIter it t (k + i) ∧ h.IsList t items) :=
    ⟨W0.sub, fun i h h' st => W0.frame (k + i) h h' st, fun i s Q E hi st hQ => W0.item (k + i) s Q E (by omega) st hQ, fun s Q E st hQ => W0.done s Q E (by rw [show k + (items.size - k) = items.size by omega] at st; exact st) hQ, fun i s Q E st hQ => W0.self (k + i) s Q E st hQ⟩
  have li : it < s.heap.objs.size := by obtain ⟨_, e, _⟩ := hit; exact Heap.lt_size e
  have lt : t < s.heap.objs.size := by obtain ⟨_, e, _⟩ := ht; exact Heap.lt_size e
  refine wpAny_collect_iter (T := "list_iterator") (n := items.size - k) (.inr (.inr (.inl rfl))) W.toS (fun i s st => st.1.typeIs) ⟨hit, ht⟩ (fun b hb => ?_) List.mem_cons_self (fun s' acc mv ha => ?_) (by omega)
  · rcases (show b = it ∨ b = t by simpa using hb) with rfl | rfl
    · exact li
    · exact lt
  · obtain ⟨hp, gs, dr, tk, os⟩ := s'
    obtain ⟨m1, m2, m3, m4, _⟩ := mv
    obtain rfl : gs = s.gens := m2
    obtain rfl : dr = s.drawn := m3
    obtain rfl : os = s.os := m4
    have e : acc.toList = items.toList.drop k := by
      obtain ⟨h1, h2⟩ := ha
      apply List.ext_getElem?
      intro i
      rw [List.getElem?_drop]
      by_cases hi : i < acc.size
      · have e1 : acc.toList[i]? = some acc[i] := by simp [hi]
        have e2 := h2 i acc[i] (by simp [hi])
        rw [e1, ← e2]
        simp
      · rw [List.getElem?_eq_none (by simpa using hi), List.getElem?_eq_none (by simp at h1 ⊢; omega)]
    rw [e]
    exact hQ hp tk fun b o hb q => m1 b o (by simpa using hb) q
theorem unpack_starL {t : Addr} {x : Value} {items : Array Value} {f1 f2 : Value → Sem Unit} {Q : Unit → Shared → Prop} (hh : A.handled = none) (ht : s.heap.IsList t items) (hx : items[0]? = some x) (hn : items.size ≤ sizeLine)
    (h : ∀ h' tk l, s.heap.get? l = none → (∀ b o, s.heap.get? b = some o → h'.get? b = some o) → h'.get? l = some { cls := .type "list", dict := none, data := .seq (items.toList.drop 1).toArray, slots := #[] } →
      wpAny (model prog w) A (assignInOrder [f1, f2] [x, .ref l]) Q E { s with heap := h', toks := tk }) :
    wpAny (model prog w) A (unpack (.ref t) [(false, f1), (true, f2)]) Q E s := by
  have hlt : t ≠ s.heap.objs.size := by obtain ⟨o, ho, _⟩ := ht; exact Nat.ne_of_lt (Heap.lt_size ho)
  have h0 : 0 < items.size := by
    have := (Array.getElem?_eq_some_iff.mp hx).1
    exact this
  unfold unpack
  show wpAny _ _ (holding [.ref t] (unpackItems (.ref t) 2 (some 1)) >>= fun vs => assignInOrder [f1, f2] vs) _ _ _
  refine wpAny_bind (wpAny_holding ?_)
  unfold unpackItems
  refine wpAny_bind ?_
  unfold notIterableAtAll
  refine wpAny_bind (wpAny_specialOf ht.typeIs F.slot_list_iter.lookup ?_)
  refine wpAny_pure ?_
  simp only [Bool.false_eq_true, if_false]
  refine wpAny_bind (wpAny_holding (wpAny_pyIter_list ht ?_))
  have hit0 : (s.heap.push { cls := .type "list_iterator", data := .fields #[.ref t, .int 0 0] }).IsListIter s.heap.objs.size t 0 := ⟨_, Heap.get?_push_size _ rfl, rfl, rfl⟩
  show wpAny (model prog w) A (holding _ (pyNext (.ref s.heap.objs.size) >>= _) >>= _) _ _ _
  refine wpAny_bind (wpAny_holding (wpAny_bind (wpAny_pyNext_list_item hit0 (ht.push _) hx fun h₁ hit₁ hs₁ => ?_)))
  refine wpAny_bind (wpAny_holding (wpAny_pure ?_))
  refine wpAny_pure ?_
  rw [if_neg (by show ¬ (1 < 1); omega)]
  have ht₁ : h₁.IsList t items := (ht.push _).extBut hs₁.extBut hlt
  refine wpAny_bind (wpAny_holding (collect_lstFrom hh hit₁ ht₁ hlt (by omega) hn fun h₂ tk hk₂ => ?_))
  show wpAny _ _ (if (items.toList.drop (0 + 1)).length < 2 - 1 - 1 then _ else _) _ _ _
  rw [if_neg (by omega)]
  have k2 : ∀ b o, s.heap.get? b = some o → h₂.get? b = some o := fun b o q => by
    have hb : b ≠ s.heap.objs.size := Nat.ne_of_lt (Heap.lt_size q)
    exact hk₂ b o hb (hs₁.extBut b o hb (Heap.get?_push_of_some _ q))
  have ez : (items.toList.drop (0 + 1)).length - (2 - 1 - 1) = (items.toList.drop (0 + 1)).length := by omega
  have el : (items.toList.drop (0 + 1)).take (items.toList.drop (0 + 1)).length = items.toList.drop 1 := List.take_length
  have ed : (items.toList.drop (0 + 1)).drop (items.toList.drop (0 + 1)).length = [] := List.drop_length
  rw [ez, el, ed]
  refine wpAny_bind (wpAny_newObj_type ?_ (by show ((items.toList.drop 1).toArray).size ≤ sizeLine; simp; omega))
  refine wpAny_pure ?_
  refine h _ tk h₂.objs.size ?_ (fun b o q => Heap.get?_push_of_some _ (k2 b o q)) (Heap.get?_push_size _ rfl)
  cases q : s.heap.get? h₂.objs.size with
  | none => rfl
  | some o => exact absurd (Heap.lt_size (k2 _ _ q)) (Nat.lt_irrefl _)
end
section
variable {X : Cx} {pos : Pos}
/-- a, *b = a list -/
def gStarL (K : PySem.W.Frag) (t1 t2 : TG) : TG := fun v σ H Q => ∃ a x xs, v = .ref a ∧ SqL K H a (x :: xs) ∧ ∀ l, H l = none → t1 x σ (upd H l (.lst xs)) fun σ1 H1 => t2 (.ref l) σ1 H1 Q
theorem pg_starL {e1 e2 : Expr} {p : Pos} {k : Nat} {t1 t2 : TG} (hc : X.calm = true) (h1 : PG X e1 t1) (h2 : PG X e2 t2) (hs : assignEach [e1, .Starred e2 p] X.env = [(false, assign e1 X.env), (true, assign e2 X.env)] := by rfl) :
    PG X (.Tuple [e1, .Starred e2 p] k pos) (gStarL X.K t1 t2) := by
  refine ⟨fun pins s σ H v u Q I r hw => ?_⟩
  obtain ⟨a, x, xs, rfl, hq, hw⟩ := hw
  cases r
  obtain ⟨its, rv, ht, hz⟩ := I.list hq
  cases rv with
  | cons rx rxs =>
    rename_i ux uxs
    have hl := rxs.length
    rw [assign_Tuple]
    refine wpAny_bind (wpAny_standAt ?_)
    rw [hs]
    refine unpack_starL (x := ux) (I.ok.hd hc) ht.isList (by simp) (by simp at hz ⊢; omega) fun h' tk l nl kp el => ?_
    have hn : H l = none := by
      cases q : H l with
      | none => rfl
      | some o =>
        obtain ⟨u, e⟩ := ok_there (I.hok l o q)
        rw [nl] at e
        cases e
    have I1 : Inv X pins σ (upd H l (.lst xs)) { s with heap := h', toks := tk } :=
      I.laidN (t' := tk) kp nl hn ⟨by simp at hz ⊢; omega, uxs, _, rxs, by simpa using el⟩
    refine assignInOrder_cons (thn (h1.run pins _ σ _ x ux _ I1 rx (hw l hn)) fun _ s1 ⟨σ1, H1, I2, q1⟩ => ?_)
    refine assignInOrder_cons (thn (h2.run pins s1 σ1 H1 (.ref l) (.ref l) _ I2 rfl q1) fun _ s2 ⟨σ2, H2, I3, q2⟩ => ?_)
    exact assignInOrder_nil ⟨σ2, H2, I3, q2⟩
end
end Kin

set_option maxHeartbeats 4000000
namespace K19
open PySem PySem.Spec PyProof.Rows L2 Kin
abbrev s_is_letters : Stmt := top 21
abbrev N_is_letters : List Str := ["thing", "most", "sign"]
theorem sc_is_letters : FnScope N_is_letters ["thing", "most"] (defScope s_is_letters) := ⟨rfl, rfl, rfl, by decide +kernel, rfl, by decide +kernel, by decide +kernel⟩
abbrev s_is_name : Stmt := top 22
abbrev N_is_name : List Str := ["thing"]
theorem sc_is_name : FnScope N_is_name ["thing"] (defScope s_is_name) := ⟨rfl, rfl, rfl, by decide +kernel, rfl, by decide +kernel, by decide +kernel⟩
abbrev s_is_sex : Stmt := top 23
abbrev N_is_sex : List Str := ["thing"]
theorem sc_is_sex : FnScope N_is_sex ["thing"] (defScope s_is_sex) := ⟨rfl, rfl, rfl, by decide +kernel, rfl, by decide +kernel, by decide +kernel⟩
abbrev s_is_person : Stmt := top 24
abbrev N_is_person : List Str := ["thing", "name", "sex", "father", "mother", "parent"]
theorem sc_is_person : FnScope N_is_person ["thing"] (defScope s_is_person) := ⟨rfl, rfl, rfl, by decide +kernel, rfl, by decide +kernel, by decide +kernel⟩
abbrev s_is_family : Stmt := top 25
abbrev N_is_family : List Str := ["thing", "sexes", "person", "name", "sex", "father", "mother"]
theorem sc_is_family : FnScope N_is_family ["thing"] (defScope s_is_family) := ⟨rfl, rfl, rfl, by decide +kernel, rfl, by decide +kernel, by decide +kernel⟩
abbrev s_need_family : Stmt := top 26
abbrev N_need_family : List Str := ["thing"]
theorem sc_need_family : FnScope N_need_family ["thing"] (defScope s_need_family) := ⟨rfl, rfl, rfl, by decide +kernel, rfl, by decide +kernel, by decide +kernel⟩
abbrev s_is_word : Stmt := top 31
abbrev N_is_word : List Str := ["thing"]
theorem sc_is_word : FnScope N_is_word ["thing"] (defScope s_is_word) := ⟨rfl, rfl, rfl, by decide +kernel, rfl, by decide +kernel, by decide +kernel⟩
abbrev s_is_number : Stmt := top 32
abbrev N_is_number : List Str := ["thing", "many"]
theorem sc_is_number : FnScope N_is_number ["thing", "many"] (defScope s_is_number) := ⟨rfl, rfl, rfl, by decide +kernel, rfl, by decide +kernel, by decide +kernel⟩
abbrev s_is_stand : Stmt := top 33
abbrev N_is_stand : List Str := ["thing", "many", "word", "numbers", "number"]
theorem sc_is_stand : FnScope N_is_stand ["thing", "many"] (defScope s_is_stand) := ⟨rfl, rfl, rfl, by decide +kernel, rfl, by decide +kernel, by decide +kernel⟩
abbrev s_is_speech : Stmt := top 34
abbrev N_is_speech : List Str := ["thing", "many", "he", "she", "stands", "stand"]
theorem sc_is_speech : FnScope N_is_speech ["thing"] (defScope s_is_speech) := ⟨rfl, rfl, rfl, by decide +kernel, rfl, by decide +kernel, by decide +kernel⟩
abbrev s_need_speech : Stmt := top 35
abbrev N_need_speech : List Str := ["thing"]
theorem sc_need_speech : FnScope N_need_speech ["thing"] (defScope s_need_speech) := ⟨rfl, rfl, rfl, by decide +kernel, rfl, by decide +kernel, by decide +kernel⟩
abbrev s_lines_text : Stmt := top 38
abbrev N_lines_text : List Str := ["lines", "words"]
theorem sc_lines_text : FnScope N_lines_text ["lines"] (defScope s_lines_text) := ⟨rfl, rfl, rfl, by decide +kernel, rfl, by decide +kernel, by decide +kernel⟩
abbrev s_written_speech : Stmt := top 39
abbrev N_written_speech : List Str := ["speech", "lines", "he", "she", "stands", "word", "numbers", "number"]
theorem sc_written_speech : FnScope N_written_speech ["speech"] (defScope s_written_speech) := ⟨rfl, rfl, rfl, by decide +kernel, rfl, by decide +kernel, by decide +kernel⟩
abbrev s_written_family : Stmt := top 40
abbrev N_written_family : List Str := ["family", "person", "told"]
theorem sc_written_family : FnScope N_written_family ["family"] (defScope s_written_family) := ⟨rfl, rfl, rfl, by decide +kernel, rfl, by decide +kernel, by decide +kernel⟩
abbrev s_speech_text : Stmt := top 41
abbrev N_speech_text : List Str := ["speech"]
theorem sc_speech_text : FnScope N_speech_text ["speech"] (defScope s_speech_text) := ⟨rfl, rfl, rfl, by decide +kernel, rfl, by decide +kernel, by decide +kernel⟩
abbrev s_family_text : Stmt := top 42
abbrev N_family_text : List Str := ["family"]
theorem sc_family_text : FnScope N_family_text ["family"] (defScope s_family_text) := ⟨rfl, rfl, rfl, by decide +kernel, rfl, by decide +kernel, by decide +kernel⟩
abbrev s_lines_of : Stmt := top 43
abbrev N_lines_of : List Str := ["text", "line"]
theorem sc_lines_of : FnScope N_lines_of ["text"] (defScope s_lines_of) := ⟨rfl, rfl, rfl, by decide +kernel, rfl, by decide +kernel, by decide +kernel⟩
abbrev s_read_stand : Stmt := top 44
abbrev N_read_stand : List Str := ["words", "numbers", "word", "rest", "told"]
theorem sc_read_stand : FnScope N_read_stand ["words", "numbers"] (defScope s_read_stand) := ⟨rfl, rfl, rfl, by decide +kernel, rfl, by decide +kernel, by decide +kernel⟩
abbrev s_read_person : Stmt := top 45
abbrev N_read_person : List Str := ["words", "parent"]
theorem sc_read_person : FnScope N_read_person ["words"] (defScope s_read_person) := ⟨rfl, rfl, rfl, by decide +kernel, rfl, by decide +kernel, by decide +kernel⟩
abbrev s_read_speech : Stmt := top 46
abbrev N_read_speech : List Str := ["text", "lines", "numbers", "stands", "speech", "number", "words"]
theorem sc_read_speech : FnScope N_read_speech ["text"] (defScope s_read_speech) := ⟨rfl, rfl, rfl, by decide +kernel, rfl, by decide +kernel, by decide +kernel⟩
abbrev s_read_family : Stmt := top 47
abbrev N_read_family : List Str := ["text", "family", "words"]
theorem sc_read_family : FnScope N_read_family ["text"] (defScope s_read_family) := ⟨rfl, rfl, rfl, by decide +kernel, rfl, by decide +kernel, by decide +kernel⟩
abbrev s_law_draw : Stmt := top 49
abbrev N_law_draw : List Str := ["_law_script", "_law_town", "_law_many", "_law_at", "_law_mixed", "_law_one"]
theorem sc_law_draw : FnScope N_law_draw ["_law_script", "_law_town", "_law_many"] (defScope s_law_draw) := ⟨rfl, rfl, rfl, by decide +kernel, rfl, by decide +kernel, by decide +kernel⟩
abbrev s_law_pick : Stmt := top 50
abbrev N_law_pick : List Str := ["_law_script", "_law_town", "_law_some"]
theorem sc_law_pick : FnScope N_law_pick ["_law_script", "_law_town", "_law_some"] (defScope s_law_pick) := ⟨rfl, rfl, rfl, by decide +kernel, rfl, by decide +kernel, by decide +kernel⟩
abbrev s_law_which : Stmt := top 58
abbrev N_law_which : List Str := ["_law_e", "_law_own"]
theorem sc_law_which : FnScope N_law_which ["_law_e"] (defScope s_law_which) := ⟨rfl, rfl, rfl, by decide +kernel, rfl, by decide +kernel, by decide +kernel⟩
abbrev s_law_ask : Stmt := top 59
abbrev N_law_ask : List Str := ["_law_what", "_law_thing", "_law_e"]
theorem sc_law_ask : FnScope N_law_ask ["_law_what", "_law_thing"] (defScope s_law_ask) := ⟨rfl, rfl, rfl, by decide +kernel, rfl, by decide +kernel, by decide +kernel⟩
abbrev s_law : Stmt := top 60
abbrev N_law : List Str := ["_law_script", "_law_town", "_law_good", "_law_bad", "_law_text", "_law_lines", "_law_names", "_law_k", "_law_one", "_law_name"]
theorem sc_law : FnScope N_law ["_law_script"] (defScope s_law) := ⟨rfl, rfl, rfl, by decide +kernel, rfl, by decide +kernel, by decide +kernel⟩
structure Txt (K : PySem.W.Frag) (mg : Str → Option Value) extends TxtB K mg where
  a_is_letters : Addr
  f_is_letters : FuncData
  d_is_letters : Df K mg "is_letters" s_is_letters ["thing", "most"] a_is_letters f_is_letters
  a_is_name : Addr
  f_is_name : FuncData
  d_is_name : Df K mg "is_name" s_is_name ["thing"] a_is_name f_is_name
  a_is_sex : Addr
  f_is_sex : FuncData
  d_is_sex : Df K mg "is_sex" s_is_sex ["thing"] a_is_sex f_is_sex
  a_is_person : Addr
  f_is_person : FuncData
  d_is_person : Df K mg "is_person" s_is_person ["thing"] a_is_person f_is_person
  a_is_family : Addr
  f_is_family : FuncData
  d_is_family : Df K mg "is_family" s_is_family ["thing"] a_is_family f_is_family
  a_need_family : Addr
  f_need_family : FuncData
  d_need_family : Df K mg "need_family" s_need_family ["thing"] a_need_family f_need_family
  a_is_word : Addr
  f_is_word : FuncData
  d_is_word : Df K mg "is_word" s_is_word ["thing"] a_is_word f_is_word
  a_is_number : Addr
  f_is_number : FuncData
  d_is_number : Df K mg "is_number" s_is_number ["thing", "many"] a_is_number f_is_number
  a_is_stand : Addr
  f_is_stand : FuncData
  d_is_stand : Df K mg "is_stand" s_is_stand ["thing", "many"] a_is_stand f_is_stand
  a_is_speech : Addr
  f_is_speech : FuncData
  d_is_speech : Df K mg "is_speech" s_is_speech ["thing"] a_is_speech f_is_speech
  a_need_speech : Addr
  f_need_speech : FuncData
  d_need_speech : Df K mg "need_speech" s_need_speech ["thing"] a_need_speech f_need_speech
  a_lines_text : Addr
  f_lines_text : FuncData
  d_lines_text : Df K mg "lines_text" s_lines_text ["lines"] a_lines_text f_lines_text
  a_written_speech : Addr
  f_written_speech : FuncData
  d_written_speech : Df K mg "written_speech" s_written_speech ["speech"] a_written_speech f_written_speech
  a_written_family : Addr
  f_written_family : FuncData
  d_written_family : Df K mg "written_family" s_written_family ["family"] a_written_family f_written_family
  a_speech_text : Addr
  f_speech_text : FuncData
  d_speech_text : Df K mg "speech_text" s_speech_text ["speech"] a_speech_text f_speech_text
  a_family_text : Addr
  f_family_text : FuncData
  d_family_text : Df K mg "family_text" s_family_text ["family"] a_family_text f_family_text
  a_lines_of : Addr
  f_lines_of : FuncData
  d_lines_of : Df K mg "lines_of" s_lines_of ["text"] a_lines_of f_lines_of
  a_read_stand : Addr
  f_read_stand : FuncData
  d_read_stand : Df K mg "read_stand" s_read_stand ["words", "numbers"] a_read_stand f_read_stand
  a_read_person : Addr
  f_read_person : FuncData
  d_read_person : Df K mg "read_person" s_read_person ["words"] a_read_person f_read_person
  a_read_speech : Addr
  f_read_speech : FuncData
  d_read_speech : Df K mg "read_speech" s_read_speech ["text"] a_read_speech f_read_speech
  a_read_family : Addr
  f_read_family : FuncData
  d_read_family : Df K mg "read_family" s_read_family ["text"] a_read_family f_read_family
  a_law_draw : Addr
  f_law_draw : FuncData
  d_law_draw : Df K mg "_law_draw" s_law_draw ["_law_script", "_law_town", "_law_many"] a_law_draw f_law_draw
  a_law_pick : Addr
  f_law_pick : FuncData
  d_law_pick : Df K mg "_law_pick" s_law_pick ["_law_script", "_law_town", "_law_some"] a_law_pick f_law_pick
  a_law_which : Addr
  f_law_which : FuncData
  d_law_which : Df K mg "_law_which" s_law_which ["_law_e"] a_law_which f_law_which
  a_law_ask : Addr
  f_law_ask : FuncData
  d_law_ask : Df K mg "_law_ask" s_law_ask ["_law_what", "_law_thing"] a_law_ask f_law_ask
end K19

set_option maxHeartbeats 2000000
namespace K19
open PySem PySem.Spec PyProof.Rows L2 Kin
/-! ### the mathematics over data -/
def letC (c : Nat) : Bool := decide (c ∈ ("abcdefghijklmnopqrstuvwxyz" : Str).cps.toList)
def letD (m : Nat) : PyData → Bool
  | .str z => decide (z.length ≤ m) && z.cps.toList.all letC
  | _ => false
def nameD : PyData → Bool
  | .str z => letD 6 (.str z) && !decide (z = "")
  | _ => false
def sexD : PyData → Bool
  | .str z => decide (z = "he") || decide (z = "she")
  | _ => false
def numD (m : Int) : PyData → Bool
  | .int i => decide (0 ≤ i) && decide (i < m)
  | _ => false
section
variable {P : Program} {w : World} {K : PySem.W.Frag} {mg : Str → Option Value} {base : Heap}
def sp_is_letters : Sp := fun vs H Q _ => ∃ (x : V) (d : PyData) (m : Nat), vs = [x, .int (m : Nat)] ∧ Td true H x d ∧ m ≤ 100 ∧ ∀ H', Same H H' → Q (.bl (letD m d)) H'
theorem ok_is_letters (T : Txt K mg) : FnOk P w K mg base CX0 1 T.a_is_letters T.f_is_letters ["thing", "most"] sp_is_letters := by
  refine T.d_is_letters.F.ok sc_is_letters (fun vs H Q E h => ?_) (fun cdv A outer s H vs Q E hr h => ?_)
  · obtain ⟨x, d, m, rfl, _⟩ := h
    rfl
  · obtain ⟨x, d, m, rfl, td, hm, q⟩ := h
    refine ⟨_, (pss_cons (ps_if (PW.pt (pw_or (pt_not (pt_val (pe_callB call_isi (by rfl) T.n_isinstance boot_isinstance (pa_cons (pv 0) (pa_cons (pe_bltn (v := .ty "str") (by rfl) T.n_str b_str rfl) pa_nil))))) (pw_or1 (pt_cmpR op_gt (pe_callB call_len_str (by rfl) T.n_len boot_len (pa_cons (pv 0) pa_nil)) (pv 1) (nomark _)))))
        (pss_one (ps_ret pe_bl))
        pss_nil)
      (pss_one (ps_ret (pe_callB (cr_all rfl) (by rfl) T.n_all boot_all (pa_cons (pe_lc (own := [("sign", 2)]) (g := gName 2) (tt := tYes) rfl sc_is_letters.nd (pi_str (pv 0)) (blkOk_by (N := N_is_letters) (sc := defScope s_is_letters) (by decide +kernel)) (fun _ _ _ _ _ => pg_name (i := 2) sc_is_letters.nd rfl (Or.inl rfl)) (fun _ _ _ _ _ => pts_nil) (fun _ _ _ _ _ => (pe_cmpR op_in_sign (pv 2) (pe_gS rfl T.g_LETTERS) (by rfl)))) pa_nil))))), ?_⟩
    obtain ⟨n, ty, kb, _⟩ := (td.ty (K := K)).ex
    refine ⟨x, rfl, x, .ty "str", .type n, .type "str", _, rfl, .ty "str", ty, kit_ty kb, _, rfl, ?_⟩
    cases td with
    | @str z hz =>
      refine iteF ?_
      refine ⟨_, rfl, z, rfl, Nat.le_of_lt (small1000 hz), _, rfl, _, _, rfl, rfl, _, rfl, ?_⟩
      by_cases hl : z.length ≤ m
      · rw [decide_eq_false (by omega)]
        refine iteF ?_
        refine ⟨_, rfl, z, rfl, fun D nD => ?_⟩
        refine lc_itY (walk_str (z := z)) (fun i H' => H' = upd H D (.lst ((z.cps.toList.take i).map fun c => V.bl (letC c)))) ?_ (fun _ _ _ _ => trivial) ?_ ?_
        · rfl
        · rintro i v H1 H2 hi rfl ⟨rfl, c, hc, rfl⟩
          refine ⟨rfl, ?_⟩
          refine ⟨_, rfl, c, _, rfl, rfl, ?_⟩
          refine ⟨_, upd_same, ?_, ?_⟩
          · rw [List.length_map, List.length_take]
            exact Nat.lt_of_le_of_lt (Nat.min_le_left _ _) (small1000 (by have : z.length = z.cps.size := rfl; omega))
          · rw [upd_upd, List.take_add_one]
            have : z.cps.toList[i]? = some c := by simpa using hc
            rw [this, List.map_append]
            rfl
        · rintro H' rfl
          refine ⟨D, z.cps.toList.map letC, rfl, .inl (.inl ?_), ?_⟩
          · rw [upd_same, List.map_map]
            congr 2
            rw [List.take_of_length_le (by simp)]
            rfl
          · have e : (z.cps.toList.map letC).all id = letD m (.str z) := by
              show _ = (decide (z.length ≤ m) && z.cps.toList.all letC)
              rw [decide_eq_true hl, Bool.true_and, List.all_map]
              rfl
            rw [e]
            exact q _ (same_upd nD)
      · rw [decide_eq_true (by omega)]
        refine iteT ?_
        have e : letD m (.str z) = false := by
          show (decide (z.length ≤ m) && z.cps.toList.all letC) = false
          rw [decide_eq_false hl, Bool.false_and]
        rw [e] at q
        exact q _ (Same.refl _)
    | _ => exact iteT (q _ (Same.refl _))
def sp_is_name : Sp := fun vs H Q _ => ∃ (x : V) (d : PyData), vs = [x] ∧ Td true H x d ∧ ∀ H', Same H H' → Q (.bl (nameD d)) H'
theorem ok_is_name (T : Txt K mg) : FnOk P w K mg base CX0 2 T.a_is_name T.f_is_name ["thing"] sp_is_name := by
  have G_is_letters : FnOk P w K mg base CX0 1 T.a_is_letters T.f_is_letters ["thing", "most"] sp_is_letters := ok_is_letters T
  refine T.d_is_name.F.ok sc_is_name (fun vs H Q E h => ?_) (fun cdv A outer s H vs Q E hr h => ?_)
  · obtain ⟨x, d, rfl, _⟩ := h
    rfl
  · obtain ⟨x, d, rfl, td, q⟩ := h
    refine ⟨_, (pss_one (ps_ret (pe_and (pe_call G_is_letters (hr.mono (by decide)) rfl T.d_is_letters.g T.d_is_letters.F.kp T.d_is_letters.b .nil pass0 (pa_cons (pv 0) (pa_cons (pe_gI rfl T.g_MOST_LETTERS) pa_nil))) (pe_one (pe_cmpR op_ne (pv 0) pe_str (nomark _)))))), ?_⟩
    refine ⟨x, rfl, x, d, 6, rfl, td, by decide, fun H1 s1 => ⟨_, rfl, ?_⟩⟩
    cases td with
    | @str z hz =>
      cases e : letD 6 (.str z) with
      | false =>
        refine iteF ?_
        have e' : nameD (.str z) = false := by show (letD 6 (.str z) && _) = false; rw [e]; rfl
        rw [e'] at q
        exact q _ s1
      | true =>
        refine iteT ?_
        refine ⟨_, rfl, rfl, ?_⟩
        have e' : nameD (.str z) = !decide (V.str z = V.str "") := by
          show (letD 6 (.str z) && !decide (z = "")) = _
          rw [e, Bool.true_and]
          simp
        rw [← e']
        exact q _ s1
    | _ => exact iteF (q _ s1)
def sp_is_sex : Sp := fun vs H Q _ => ∃ (x : V) (d : PyData), vs = [x] ∧ Td true H x d ∧ Q (.bl (sexD d)) H
theorem ok_is_sex (T : Txt K mg) : FnOk P w K mg base CX0 1 T.a_is_sex T.f_is_sex ["thing"] sp_is_sex := by
  refine T.d_is_sex.F.ok sc_is_sex (fun vs H Q E h => ?_) (fun cdv A outer s H vs Q E hr h => ?_)
  · obtain ⟨x, d, rfl, _⟩ := h
    rfl
  · obtain ⟨x, d, rfl, td, q⟩ := h
    refine ⟨_, (pss_one (ps_ret (pe_and (pe_callB call_isi (by rfl) T.n_isinstance boot_isinstance (pa_cons (pv 0) (pa_cons (pe_bltn (v := .ty "str") (by rfl) T.n_str b_str rfl) pa_nil))) (pe_one (pe_cmpR op_in_seq (pv 0) (pe_gR rfl T.g_SEXES) (by rfl)))))), ?_⟩
    obtain ⟨n, ty, kb, _⟩ := (td.ty (K := K)).ex
    refine ⟨x, rfl, x, .ty "str", .type n, .type "str", _, rfl, .ty "str", ty, kit_ty kb, _, rfl, ?_⟩
    cases td with
    | @str z hz =>
      refine iteT ?_
      refine ⟨_, rfl, T.aSEXES, _, rfl, .inr (T.q_SEXES _), rfl, rfl, ?_⟩
      have e : inV (.str z) [.str "he", .str "she"] = sexD (.str z) := by
        unfold inV sexD
        simp only [List.any_cons, List.any_nil, Bool.or_false, eqV]
        rw [show (("he" : Str) == z) = decide (z = "he") by rw [Bool.beq_comm]; rfl, show (("she" : Str) == z) = decide (z = "she") by rw [Bool.beq_comm]; rfl]
      rw [if_neg Bool.false_ne_true, e]
      exact q
    | _ => exact iteF q
def sp_is_word : Sp := fun vs H Q _ => ∃ (x : V) (d : PyData), vs = [x] ∧ Td true H x d ∧ ∀ H', Same H H' → Q (.bl (letD 8 d)) H'
theorem ok_is_word (T : Txt K mg) : FnOk P w K mg base CX0 2 T.a_is_word T.f_is_word ["thing"] sp_is_word := by
  have G_is_letters : FnOk P w K mg base CX0 1 T.a_is_letters T.f_is_letters ["thing", "most"] sp_is_letters := ok_is_letters T
  refine T.d_is_word.F.ok sc_is_word (fun vs H Q E h => ?_) (fun cdv A outer s H vs Q E hr h => ?_)
  · obtain ⟨x, d, rfl, _⟩ := h
    rfl
  · obtain ⟨x, d, rfl, td, q⟩ := h
    refine ⟨_, (pss_one (ps_ret (pe_call G_is_letters (hr.mono (by decide)) rfl T.d_is_letters.g T.d_is_letters.F.kp T.d_is_letters.b .nil pass0 (pa_cons (pv 0) (pa_cons (pe_gI rfl T.g_MOST_WORD) pa_nil))))), ?_⟩
    exact ⟨x, rfl, x, d, 8, rfl, td, by decide, fun H1 s1 => q _ s1⟩
def sp_is_number : Sp := fun vs H Q _ => ∃ (x : V) (d : PyData) (m : Int), vs = [x, .int m] ∧ Td true H x d ∧ Q (.bl (numD m d)) H
theorem ok_is_number (T : Txt K mg) : FnOk P w K mg base CX0 1 T.a_is_number T.f_is_number ["thing", "many"] sp_is_number := by
  refine T.d_is_number.F.ok sc_is_number (fun vs H Q E h => ?_) (fun cdv A outer s H vs Q E hr h => ?_)
  · obtain ⟨x, d, m, rfl, _⟩ := h
    rfl
  · obtain ⟨x, d, m, rfl, td, q⟩ := h
    refine ⟨_, (pss_cons (ps_if (PW.pt (pw_or (pt_not (pt_val (pe_callB call_isi (by rfl) T.n_isinstance boot_isinstance (pa_cons (pv 0) (pa_cons (pe_bltn (v := .ty "int") (by rfl) T.n_int b_int rfl) pa_nil))))) (pw_or1 (pt_val (pe_callB call_isi (by rfl) T.n_isinstance boot_isinstance (pa_cons (pv 0) (pa_cons (pe_bltn (v := .ty "bool") (by rfl) T.n_bool b_bool rfl) pa_nil)))))))
        (pss_one (ps_ret pe_bl))
        pss_nil)
      (pss_one (ps_ret (pe_chain op_le op_lt pe_int (pv 0) (pv 1))))), ?_⟩
    obtain ⟨n, ty, _, _, ki, kb⟩ := (td.ty (K := K)).ex
    refine ⟨x, rfl, x, .ty "int", .type n, .type "int", _, rfl, .ty "int", ty, kit_ty ki, _, rfl, ?_⟩
    cases td with
    | int i =>
      refine iteF ?_
      refine ⟨_, rfl, _, .ty "bool", .type n, .type "bool", _, rfl, .ty "bool", ty, kit_ty kb, _, rfl, ?_⟩
      refine iteF ?_
      refine ⟨_, rfl, _, _, rfl, rfl, _, rfl, ?_⟩
      have e : numD m (.int i) = (decide (0 ≤ i) && decide (i < m)) := rfl
      rw [e] at q
      by_cases h0 : 0 ≤ i
      · rw [decide_eq_true h0] at q ⊢
        refine iteT ?_
        exact ⟨_, rfl, _, _, rfl, rfl, q⟩
      · rw [decide_eq_false h0] at q ⊢
        exact iteF q
    | bl b =>
      refine iteF ?_
      refine ⟨_, rfl, _, .ty "bool", .type n, .type "bool", _, rfl, .ty "bool", ty, kit_ty kb, _, rfl, ?_⟩
      exact iteT q
    | _ => exact iteT q
/-! ### the refusers -/
def sp_need (g : PyData → Bool) (C : Addr) : Sp := fun vs H Q E => ∃ (x : V) (d : PyData), vs = [x] ∧ Td true H x d ∧ ∀ H', Same H H' → (g d = true → Q .non H') ∧ (g d = false → E (.ref C) none H')
end
end K19

set_option maxHeartbeats 4000000
namespace K19
open PySem PySem.Spec PyProof.Rows L2 Kin
def standD (m : Int) : PyData → Bool
  | .tuple (w :: ns) => decide (ns.length = 4) && letD 8 w && ns.all (numD m)
  | _ => false
def speechD : PyData → Bool
  | .tuple [he, she, .tuple ss] => decide (1 ≤ ss.length) && decide (ss.length ≤ 8) && numD (ss.length : Int) he && numD (ss.length : Int) she && ss.all (standD (ss.length : Int))
  | _ => false
section
variable {P : Program} {w : World} {K : PySem.W.Frag} {mg : Str → Option Value} {base : Heap}
def sp_is_stand : Sp := fun vs H Q _ => ∃ (x : V) (d : PyData) (m : Int), vs = [x, .int m] ∧ Td true H x d ∧ ∀ H', Same H H' → Q (.bl (standD m d)) H'
theorem ok_is_stand (T : Txt K mg) : FnOk P w K mg base CX0 3 T.a_is_stand T.f_is_stand ["thing", "many"] sp_is_stand := by
  have G_is_word : FnOk P w K mg base CX0 2 T.a_is_word T.f_is_word ["thing"] sp_is_word := ok_is_word T
  have G_is_number : FnOk P w K mg base CX0 1 T.a_is_number T.f_is_number ["thing", "many"] sp_is_number := ok_is_number T
  refine T.d_is_stand.F.ok sc_is_stand (fun vs H Q E h => ?_) (fun cdv A outer s H vs Q E hr h => ?_)
  · obtain ⟨x, d, m, rfl, _⟩ := h
    rfl
  · obtain ⟨x, d, m, rfl, td, q⟩ := h
    refine ⟨_, (pss_cons (ps_if (PW.pt (pw_or (pt_not (pt_val (pe_callB call_isi (by rfl) T.n_isinstance boot_isinstance (pa_cons (pv 0) (pa_cons (pe_bltn (v := .ty "tuple") (by rfl) T.n_tuple b_tuple rfl) pa_nil))))) (pw_or1 (pt_cmpR op_ne (pe_callB call_len_seq (by rfl) T.n_len boot_len (pa_cons (pv 0) pa_nil)) (pe_op op_add pe_int (pe_callB call_len_str (by rfl) T.n_len boot_len (pa_cons (pe_gS rfl T.g_STEPS) pa_nil))) (nomark _)))))
        (pss_one (ps_ret pe_bl))
        pss_nil)
      (pss_cons (ps_asg (pv 0) (pg_star rfl (pg_name (i := 2) sc_is_stand.nd rfl (Or.inl rfl)) (pg_name (i := 3) sc_is_stand.nd rfl (Or.inl rfl))))
      (pss_one (ps_ret (pe_and (pe_call G_is_word (hr.mono (by decide)) rfl T.d_is_word.g T.d_is_word.F.kp T.d_is_word.b .nil pass0 (pa_cons (pv 2) pa_nil)) (pe_one (pe_callB (cr_all rfl) (by rfl) T.n_all boot_all (pa_cons (pe_lc (own := [("number", 4)]) (g := gName 4) (tt := tYes) rfl sc_is_stand.nd (pi_list (pv 3)) (blkOk_by (N := N_is_stand) (sc := defScope s_is_stand) (by decide +kernel)) (fun _ _ _ _ _ => pg_name (i := 4) sc_is_stand.nd rfl (Or.inl rfl)) (fun _ _ _ _ _ => pts_nil) (fun _ _ _ _ _ => (pe_call G_is_number (hr.mono (by decide)) rfl T.d_is_number.g T.d_is_number.F.kp T.d_is_number.b .nil pass0 (pa_cons (pv 4) (pa_cons (pv 1) pa_nil))))) pa_nil)))))))), ?_⟩
    obtain ⟨n, ty, _, kt, _⟩ := (td.ty (K := K)).ex
    refine ⟨x, rfl, x, .ty "tuple", .type n, .type "tuple", _, rfl, .ty "tuple", ty, kit_ty kt, _, rfl, ?_⟩
    cases td with
    | @tup a xs ds e nx r =>
      refine iteF ?_
      have hl := r.length
      refine ⟨_, rfl, a, xs, rfl, .inr (.inl (.inl e)), _, rfl, by decide, _, _, rfl, rfl, rfl, _, rfl, ?_⟩
      refine ite2 (fun hc => ?_) (fun hc => ?_)
      · have h5 : ds.length ≠ 5 := fun z => by
          rw [hl, z] at hc
          exact absurd hc (by decide +kernel)
        have e5 : standD m (.tuple ds) = false := by
          cases ds with
          | nil => rfl
          | cons w ns =>
            show (decide (ns.length = 4) && letD 8 w && ns.all (numD m)) = false
            rw [decide_eq_false (fun z => h5 (by rw [List.length_cons, z])), Bool.false_and, Bool.false_and]
        rw [e5] at q
        exact q _ (Same.refl _)
      · have h5 : ds.length = 5 := by
          have hc' : ((xs.length : Nat) : Int) = 1 + ((("fmsd" : Str).length : Nat) : Int) := by simpa using hc
          have e4 : ("fmsd" : Str).length = 4 := by decide +kernel
          rw [e4] at hc'
          omega
        cases r with
        | nil => cases h5
        | @cons wv nsv wd nds tw tr =>
          have h4 : nds.length = 4 := by simpa using h5
          have h4v : nsv.length = 4 := by rw [tr.length, h4]
          have e5 : standD m (.tuple (wd :: nds)) = (letD 8 wd && nds.all (numD m)) := by
            show (decide (nds.length = 4) && letD 8 wd && nds.all (numD m)) = _
            rw [decide_eq_true h4, Bool.true_and]
          rw [e5] at q
          refine ⟨_, rfl, a, wv, nsv, rfl, .inl (.inl e), fun l nl => ?_⟩
          have s1 : Same H (upd H l (.lst nsv)) := same_upd nl
          have el : upd H l (.lst nsv) l = some (.lst nsv) := upd_same
          generalize upd H l (.lst nsv) = H1 at s1 el ⊢
          refine ⟨wv, rfl, wv, wd, rfl, tw.mono s1, fun H2 s2 => ⟨_, rfl, ?_⟩⟩
          have s12 := s1.trans s2
          cases ew : letD 8 wd with
          | false =>
            rw [ew] at q
            exact iteF (q _ s12)
          | true =>
            rw [ew] at q
            refine iteT ?_
            have hS : ∀ H', Same H2 H' → SqL K H' l nsv := fun H' s => .inl (.inl (s _ _ (s2 _ _ el)))
            refine ⟨_, rfl, l, rfl, ⟨_, hS _ (Same.refl _)⟩, fun D nD => ?_⟩
            refine lc_itY (walk_list (K := K) (a := l) (xs := nsv)) (fun i H' => Same H2 H' ∧ H' D = some (.lst ((nds.take i).map fun d => V.bl (numD m d)))) ?_ (fun i H' _ p => hS H' p.1) ?_ ?_
            · exact ⟨same_upd nD, upd_same⟩
            · rintro i v H3 H3' hi ⟨s3, e3⟩ ⟨rfl, ev⟩
              obtain ⟨d, ed, tdv⟩ := tr.get ev
              refine ⟨rfl, ?_⟩
              refine ⟨v, rfl, _, rfl, v, d, m, rfl, tdv.mono (s12.trans s3), ?_⟩
              refine ⟨_, e3, ?_, same_set s3 nD, ?_⟩
              · rw [List.length_map, List.length_take, sizeLine_eq]
                omega
              · rw [upd_same, List.take_add_one, ed, List.map_append]
                rfl
            · rintro H3 ⟨s3, e3⟩
              rw [List.take_of_length_le (by rw [h4, h4v]; exact Nat.le_refl _)] at e3
              refine ⟨D, nds.map (numD m), rfl, .inl (.inl ?_), ?_⟩
              · rw [e3, List.map_map]
                rfl
              · rw [List.all_map]
                exact q _ (s12.trans s3)
    | _ => exact iteT (q _ (Same.refl _))
def sp_is_speech : Sp := fun vs H Q _ => ∃ (x : V) (d : PyData), vs = [x] ∧ Td true H x d ∧ ∀ H', Same H H' → Q (.bl (speechD d)) H'
theorem speechD_len {ds : List PyData} (h : ds.length ≠ 3) : speechD (.tuple ds) = false :=
  match ds, h with
  | [], _ => rfl
  | [_], _ => rfl
  | [_, _], _ => rfl
  | [_, _, _], h => absurd rfl h
  | _ :: _ :: _ :: _ :: _, _ => by simp [speechD]
theorem ok_is_speech (T : Txt K mg) : FnOk P w K mg base CX0 4 T.a_is_speech T.f_is_speech ["thing"] sp_is_speech := by
  have G_is_stand : FnOk P w K mg base CX0 3 T.a_is_stand T.f_is_stand ["thing", "many"] sp_is_stand := ok_is_stand T
  have G_is_number : FnOk P w K mg base CX0 1 T.a_is_number T.f_is_number ["thing", "many"] sp_is_number := ok_is_number T
  refine T.d_is_speech.F.ok sc_is_speech (fun vs H Q E h => ?_) (fun cdv A outer s H vs Q E hr h => ?_)
  · obtain ⟨x, d, rfl, _⟩ := h
    rfl
  · obtain ⟨x, d, rfl, td, q⟩ := h
    refine ⟨_, (pss_cons (ps_if (PW.pt (pw_or (pt_not (pt_val (pe_callB call_isi (by rfl) T.n_isinstance boot_isinstance (pa_cons (pv 0) (pa_cons (pe_bltn (v := .ty "tuple") (by rfl) T.n_tuple b_tuple rfl) pa_nil))))) (pw_or1 (pt_cmpR op_ne (pe_callB call_len_seq (by rfl) T.n_len boot_len (pa_cons (pv 0) pa_nil)) pe_int (nomark _)))))
        (pss_one (ps_ret pe_bl))
        pss_nil)
      (pss_cons (ps_asg (pv 0) (pg_tup rfl (pgs_cons (pg_name (i := 2) sc_is_speech.nd rfl (Or.inl rfl)) (pgs_cons (pg_name (i := 3) sc_is_speech.nd rfl (Or.inl rfl)) (pgs_cons (pg_name (i := 4) sc_is_speech.nd rfl (Or.inl rfl)) pgs_nil)))))
      (pss_cons (ps_if (PW.pt (pw_or (pt_not (pt_val (pe_callB call_isi (by rfl) T.n_isinstance boot_isinstance (pa_cons (pv 4) (pa_cons (pe_bltn (v := .ty "tuple") (by rfl) T.n_tuple b_tuple rfl) pa_nil))))) (pw_or1 (pt_not (pt_chain op_le op_le pe_int (pe_callB call_len_seq (by rfl) T.n_len boot_len (pa_cons (pv 4) pa_nil)) (pe_gI rfl T.g_MOST_STANDS))))))
        (pss_one (ps_ret pe_bl))
        pss_nil)
      (pss_cons (ps_set (i := 1) sc_is_speech.nd rfl (Or.inr rfl) (pe_callB call_len_seq (by rfl) T.n_len boot_len (pa_cons (pv 4) pa_nil)))
      (pss_cons (ps_if (PW.pt (pw_or (pt_not (pt_val (pe_call G_is_number (hr.mono (by decide)) rfl T.d_is_number.g T.d_is_number.F.kp T.d_is_number.b .nil pass0 (pa_cons (pv 2) (pa_cons (pv 1) pa_nil))))) (pw_or1 (pt_not (pt_val (pe_call G_is_number (hr.mono (by decide)) rfl T.d_is_number.g T.d_is_number.F.kp T.d_is_number.b .nil pass0 (pa_cons (pv 3) (pa_cons (pv 1) pa_nil))))))))
        (pss_one (ps_ret pe_bl))
        pss_nil)
      (pss_one (ps_ret (pe_callB (cr_all rfl) (by rfl) T.n_all boot_all (pa_cons (pe_lc (own := [("stand", 5)]) (g := gName 5) (tt := tYes) rfl sc_is_speech.nd (pi_tup (pv 4)) (blkOk_by (N := N_is_speech) (sc := defScope s_is_speech) (by decide +kernel)) (fun _ _ _ _ _ => pg_name (i := 5) sc_is_speech.nd rfl (Or.inl rfl)) (fun _ _ _ _ _ => pts_nil) (fun _ _ _ _ _ => (pe_call G_is_stand (hr.mono (by decide)) rfl T.d_is_stand.g T.d_is_stand.F.kp T.d_is_stand.b .nil pass0 (pa_cons (pv 5) (pa_cons (pv 1) pa_nil))))) pa_nil))))))))), ?_⟩
    obtain ⟨n, ty, _, kt, _⟩ := (td.ty (K := K)).ex
    refine ⟨x, rfl, x, .ty "tuple", .type n, .type "tuple", _, rfl, .ty "tuple", ty, kit_ty kt, _, rfl, ?_⟩
    cases td with
    | @tup a xs ds e nx r =>
      refine iteF ?_
      have hl := r.length
      refine ⟨_, rfl, a, xs, rfl, .inr (.inl (.inl e)), rfl, _, rfl, ?_⟩
      refine ite2 (fun hc => ?_) (fun hc => ?_)
      · have h5 : ds.length ≠ 3 := fun z => by
          rw [hl, z] at hc
          exact absurd hc (by decide +kernel)
        rw [speechD_len h5] at q
        exact q _ (Same.refl _)
      · have h5 : xs.length = 3 := by
          have hc' : ((xs.length : Nat) : Int) = 3 := by simpa using hc
          omega
        match xs, ds, r, h5, q with
        | [v1, v2, v3], [d1, d2, d3], .cons t1 (.cons t2 (.cons t3 .nil)), _, q =>
          refine ⟨_, rfl, a, _, rfl, .inl (.inl e), rfl, _, _, rfl, _, _, rfl, _, _, rfl, rfl, ?_⟩
          obtain ⟨n3, ty3, _, kt3, _⟩ := (t3.ty (K := K)).ex
          refine ⟨_, rfl, v3, .ty "tuple", .type n3, .type "tuple", _, rfl, .ty "tuple", ty3, kit_ty kt3, _, rfl, ?_⟩
          cases t3 with
          | @tup a3 xs3 ds3 e3 nx3 r3 =>
            have hl3 := r3.length
            have q : ∀ H', Same H H' → Q (.bl (decide (1 ≤ ds3.length) && decide (ds3.length ≤ 8) && numD (ds3.length : Int) d1 && numD (ds3.length : Int) d2 && ds3.all (standD (ds3.length : Int)))) H' := q
            refine iteF ?_
            refine ⟨_, rfl, a3, xs3, rfl, .inr (.inl (.inl e3)), ?_⟩
            rw [hl3]
            refine ⟨_, _, rfl, rfl, _, rfl, ?_⟩
            by_cases h1 : 1 ≤ ds3.length
            · rw [decide_eq_true h1] at q
              rw [decide_eq_true (show (1 : Int) ≤ ((ds3.length : Nat) : Int) by omega)]
              refine iteT ?_
              refine ⟨_, _, rfl, rfl, _, rfl, ?_⟩
              by_cases h8 : ds3.length ≤ 8
              · rw [decide_eq_true h8] at q
                rw [decide_eq_true (show ((ds3.length : Nat) : Int) ≤ 8 by omega)]
                refine iteF ?_
                refine ⟨_, rfl, a3, xs3, rfl, .inr (.inl (.inl e3)), ?_⟩
                rw [hl3]
                refine ⟨_, rfl, _, rfl, v1, d1, _, rfl, t1, _, rfl, ?_⟩
                cases n1 : numD ((ds3.length : Nat) : Int) d1 with
                | false =>
                  rw [n1] at q
                  exact iteT (q _ (Same.refl _))
                | true =>
                  rw [n1] at q
                  refine iteF ?_
                  refine ⟨_, rfl, _, rfl, v2, d2, _, rfl, t2, _, rfl, ?_⟩
                  cases n2 : numD ((ds3.length : Nat) : Int) d2 with
                  | false =>
                    rw [n2] at q
                    exact iteT (q _ (Same.refl _))
                  | true =>
                    rw [n2] at q
                    refine iteF ?_
                    have hS : ∀ H', Same H H' → SqT K H' a3 xs3 := fun H' s => .inl (.inl (s _ _ e3))
                    refine ⟨_, rfl, a3, rfl, ⟨_, hS _ (Same.refl _)⟩, fun D nD => ?_⟩
                    refine lc_itY (walk_tup (K := K) (a := a3) (xs := xs3)) (fun i H' => Same H H' ∧ H' D = some (.lst ((ds3.take i).map fun d => V.bl (standD (ds3.length : Int) d)))) ?_ (fun i H' _ p => hS H' p.1) ?_ ?_
                    · exact ⟨same_upd nD, upd_same⟩
                    · rintro i v H3 H3' hi ⟨s3, ed3⟩ ⟨rfl, ev⟩
                      obtain ⟨d, ed, tdv⟩ := r3.get ev
                      refine ⟨rfl, ?_⟩
                      refine ⟨v, rfl, _, rfl, v, d, _, rfl, tdv.mono s3, fun H4 s4 => ?_⟩
                      refine ⟨_, s4 _ _ ed3, ?_, same_set (s3.trans s4) nD, ?_⟩
                      · rw [List.length_map, List.length_take, sizeLine_eq]
                        omega
                      · rw [upd_same, List.take_add_one, ed, List.map_append]
                        rfl
                    · rintro H3 ⟨s3, ed3⟩
                      rw [List.take_of_length_le (by rw [hl3]; exact Nat.le_refl _)] at ed3
                      refine ⟨D, ds3.map (standD (ds3.length : Int)), rfl, .inl (.inl ?_), ?_⟩
                      · rw [ed3, List.map_map]
                        rfl
                      · rw [List.all_map]
                        exact q _ s3
              · rw [decide_eq_false h8] at q
                rw [decide_eq_false (show ¬ ((ds3.length : Nat) : Int) ≤ 8 by omega)]
                exact iteT (q _ (Same.refl _))
            · rw [decide_eq_false h1] at q
              rw [decide_eq_false (show ¬ (1 : Int) ≤ ((ds3.length : Nat) : Int) by omega)]
              refine iteF ?_
              exact ⟨_, rfl, iteT (q _ (Same.refl _))⟩
          | _ => exact iteT (q _ (Same.refl _))
    | _ => exact iteT (q _ (Same.refl _))
theorem ok_need_speech (T : Txt K mg) : FnOk P w K mg base (L2.CX P w) 5 T.a_need_speech T.f_need_speech ["thing"] (sp_need speechD T.aS) := by
  have G_is_speech : FnOk P w K mg base CX0 4 T.a_is_speech T.f_is_speech ["thing"] sp_is_speech := ok_is_speech T
  refine T.d_need_speech.F.okX sc_need_speech (fun vs H Q E h => ?_) (fun cdv A outer s H vs Q E hr h => ?_)
  · obtain ⟨x, d, rfl, _⟩ := h
    rfl
  · obtain ⟨x, d, rfl, td, q⟩ := h
    refine ⟨_, (pss_one (ps_if (pt_not (pt_val (pe_call G_is_speech (hr.mono (by decide)) rfl T.d_is_speech.g T.d_is_speech.F.kp T.d_is_speech.b .nil pass0 (pa_cons (pv 0) pa_nil))))
        (pss_one (ps_raise rfl (takes_of rfl rfl rfl rfl) (pmk_own PySem.F.excBase_ValueError T.c_NoSpeech.x T.c_NoSpeech.g T.c_NoSpeech.k (raises_own T.c_NoSpeech.b T.c_NoSpeech.t) (by exact rfl))))
        pss_nil)), ?_⟩
    refine ⟨x, rfl, x, d, rfl, td, fun H1 s1 => ⟨_, rfl, ?_⟩⟩
    obtain ⟨q1, q2⟩ := q H1 s1
    cases e : speechD d with
    | true => exact iteF (q1 e)
    | false => exact iteT (q2 e)
end
end K19

set_option maxHeartbeats 4000000
/-! is_person, is_family of things of any kind (over K19's text; for other laws: the namespace, the places and Txt changed) -/
namespace K19
open PySem PySem.Spec PyProof.Rows L2 Kin
def parD : PyData → Bool
  | .none => true
  | d => nameD d
def persD : PyData → Bool
  | .tuple [n, s, f, m] => nameD n && sexD s && parD f && parD m
  | _ => false
def parE (E : List (Str × Str)) (s : Str) : PyData → Bool
  | .none => true
  | .str z => decide (valV (E.map fun p => ((Sum.inr p.1 : Key), V.str p.2)) (Sum.inr z) = some (.str s))
  | _ => false
def famGo (E : List (Str × Str)) : List PyData → Bool
  | [] => true
  | .tuple [.str n, .str s, f, m] :: r => persD (.tuple [.str n, .str s, f, m]) && (valV (E.map fun p => ((Sum.inr p.1 : Key), V.str p.2)) (Sum.inr n)).isNone && parE E "he" f && parE E "she" m && famGo (E ++ [(n, s)]) r
  | _ :: _ => false
def famD : PyData → Bool
  | .tuple ps => decide (1 ≤ ps.length) && decide (ps.length ≤ 40) && famGo [] ps
  | _ => false
theorem persD_len {ds : List PyData} (h : ds.length ≠ 4) : persD (.tuple ds) = false :=
  match ds, h with
  | [], _ => rfl
  | [_], _ => rfl
  | [_, _], _ => rfl
  | [_, _, _], _ => rfl
  | [_, _, _, _], h => absurd rfl h
  | _ :: _ :: _ :: _ :: _ :: _, _ => rfl
section
variable {P : Program} {w : World} {K : PySem.W.Frag} {mg : Str → Option Value} {base : Heap}
def sp_is_personD : Sp := fun vs H Q _ => ∃ (x : V) (d : PyData), vs = [x] ∧ Td true H x d ∧ ∀ H', Same H H' → Q (.bl (persD d)) H'
theorem ok_is_personD (T : Txt K mg) : FnOk P w K mg base CX0 3 T.a_is_person T.f_is_person ["thing"] sp_is_personD := by
  have G_is_name : FnOk P w K mg base CX0 2 T.a_is_name T.f_is_name ["thing"] sp_is_name := ok_is_name T
  have G_is_sex : FnOk P w K mg base CX0 1 T.a_is_sex T.f_is_sex ["thing"] sp_is_sex := ok_is_sex T
  refine T.d_is_person.F.ok sc_is_person (fun vs H Q E h => ?_) (fun cdv A outer s H vs Q E hr h => ?_)
  · obtain ⟨x, d, rfl, _⟩ := h
    rfl
  · obtain ⟨x, d, rfl, td, q⟩ := h
    refine ⟨_, (pss_cons (ps_if (PW.pt (pw_or (pt_not (pt_val (pe_callB call_isi (by rfl) T.n_isinstance boot_isinstance (pa_cons (pv 0) (pa_cons (pe_bltn (v := .ty "tuple") (by rfl) T.n_tuple b_tuple rfl) pa_nil))))) (pw_or1 (pt_cmpR op_ne (pe_callB call_len_seq (by rfl) T.n_len boot_len (pa_cons (pv 0) pa_nil)) pe_int (nomark _)))))
        (pss_one (ps_ret pe_bl))
        pss_nil)
      (pss_cons (ps_asg (pv 0) (pg_tup rfl (pgs_cons (pg_name (i := 1) sc_is_person.nd rfl (Or.inl rfl)) (pgs_cons (pg_name (i := 2) sc_is_person.nd rfl (Or.inl rfl)) (pgs_cons (pg_name (i := 3) sc_is_person.nd rfl (Or.inl rfl)) (pgs_cons (pg_name (i := 4) sc_is_person.nd rfl (Or.inl rfl)) pgs_nil))))))
      (pss_cons (ps_if (PW.pt (pw_or (pt_not (pt_val (pe_call G_is_name (hr.mono (by decide)) rfl T.d_is_name.g T.d_is_name.F.kp T.d_is_name.b .nil pass0 (pa_cons (pv 1) pa_nil)))) (pw_or1 (pt_not (pt_val (pe_call G_is_sex (hr.mono (by decide)) rfl T.d_is_sex.g T.d_is_sex.F.kp T.d_is_sex.b .nil pass0 (pa_cons (pv 2) pa_nil)))))))
        (pss_one (ps_ret pe_bl))
        pss_nil)
      (pss_one (ps_ret (pe_callB (cr_all rfl) (by rfl) T.n_all boot_all (pa_cons (pe_lc (own := [("parent", 5)]) (g := gName 5) (tt := tYes) rfl sc_is_person.nd (pi_tup (pe_tup (pa_cons (pv 3) (pa_cons (pv 4) pa_nil)))) (blkOk_by (N := N_is_person) (sc := defScope s_is_person) (by decide +kernel)) (fun _ _ _ _ _ => pg_name (i := 5) sc_is_person.nd rfl (Or.inl rfl)) (fun _ _ _ _ _ => pts_nil) (fun _ _ _ _ _ => (pe_or (pe_cmp (pc_isN (pv 5))) (pe_one (pe_call G_is_name (hr.mono (by decide)) rfl T.d_is_name.g T.d_is_name.F.kp T.d_is_name.b .nil pass0 (pa_cons (pv 5) pa_nil)))))) pa_nil))))))), ?_⟩
    obtain ⟨n, ty, _, kt, _⟩ := (td.ty (K := K)).ex
    refine ⟨_, rfl, x, .ty "tuple", .type n, .type "tuple", _, rfl, .ty "tuple", ty, kit_ty kt, _, rfl, ?_⟩
    cases td with
    | @tup a xs ds e nx r =>
      have hl := r.length
      refine iteF ?_
      refine ⟨_, rfl, a, _, rfl, .inr (.inl (.inl e)), rfl, _, rfl, ?_⟩
      refine ite2 (fun hc => ?_) (fun hc => ?_)
      · have h4 : ds.length ≠ 4 := fun z => by
          rw [hl, z] at hc
          exact absurd hc (by decide +kernel)
        rw [persD_len h4] at q
        exact q _ (Same.refl _)
      · have h4 : xs.length = 4 := by
          have hc' : ((xs.length : Nat) : Int) = 4 := by simpa using hc
          omega
        match xs, ds, r, h4, q with
        | [v1, v2, v3, v4], [d1, d2, d3, d4], .cons t1 (.cons t2 (.cons t3 (.cons t4 .nil))), _, q =>
          have q : ∀ H', Same H H' → Q (.bl (nameD d1 && sexD d2 && parD d3 && parD d4)) H' := q
          refine ⟨_, rfl, a, _, rfl, .inl (.inl e), rfl, _, _, rfl, _, _, rfl, _, _, rfl, _, _, rfl, rfl, ?_⟩
          refine ⟨_, rfl, v1, d1, rfl, t1, fun H1 s1 => ⟨_, rfl, ?_⟩⟩
          cases e1 : nameD d1 with
          | false =>
            rw [e1] at q
            exact iteT (q _ s1)
          | true =>
            rw [e1] at q
            refine iteF ?_
            refine ⟨_, rfl, v2, d2, rfl, t2.mono s1, _, rfl, ?_⟩
            cases e2 : sexD d2 with
            | false =>
              rw [e2] at q
              exact iteT (q _ s1)
            | true =>
              rw [e2] at q
              refine iteF ?_
              refine ⟨_, rfl, _, rfl, by show 2 ≤ sizeLine; decide, fun t nt => ?_⟩
              have s2 := s1.trans (same_upd (o := .tup [v3, v4]) nt)
              have et : upd H1 t (.tup [v3, v4]) t = some (.tup [v3, v4]) := upd_same
              generalize upd H1 t (.tup [v3, v4]) = H2 at s2 et ⊢
              have hS : ∀ H', Same H2 H' → SqT K H' t [v3, v4] := fun H' s => .inl (.inl (s _ _ et))
              have tr : TdAll true H2 [v3, v4] [d3, d4] := .cons (t3.mono s2) (.cons (t4.mono s2) .nil)
              refine ⟨t, rfl, ⟨_, hS _ (Same.refl _)⟩, fun D nD => ?_⟩
              refine lc_itY (walk_tup (K := K) (a := t) (xs := [v3, v4])) (fun i H' => Same H2 H' ∧ H' D = some (.lst ((([d3, d4] : List PyData).take i).map fun d => V.bl (parD d)))) ?_ (fun i H' _ p => hS H' p.1) ?_ ?_
              · exact ⟨same_upd nD, upd_same⟩
              · rintro i v H3 H3' hi ⟨s3, e3⟩ ⟨rfl, ev⟩
                obtain ⟨d, ed, tdv⟩ := tr.get ev
                have hi : i < 2 := hi
                refine ⟨rfl, ?_⟩
                have fin : ∀ H4, Same H3' H4 → ∃ acc, H4 D = some (.lst acc) ∧ acc.length < sizeLine ∧ (Same H2 (upd H4 D (.lst (acc ++ [V.bl (parD d)]))) ∧ upd H4 D (.lst (acc ++ [V.bl (parD d)])) D = some (.lst ((([d3, d4] : List PyData).take (i + 1)).map fun d => V.bl (parD d)))) := fun H4 s4 => by
                  refine ⟨_, s4 _ _ e3, ?_, same_set (s3.trans s4) nD, ?_⟩
                  · rw [List.length_map, List.length_take, sizeLine_eq]
                    omega
                  · rw [upd_same, List.take_add_one, ed, List.map_append]
                    rfl
                refine ⟨_, rfl, _, rfl, ?_⟩
                have tdv := tdv.mono s3
                cases tdv with
                | non => exact iteT (fin _ (Same.refl _))
                | bl b => exact iteF ⟨_, rfl, _, _, rfl, .bl b, fun H4 s4 => fin _ s4⟩
                | int i' => exact iteF ⟨_, rfl, _, _, rfl, .int i', fun H4 s4 => fin _ s4⟩
                | str hz => exact iteF ⟨_, rfl, _, _, rfl, .str hz, fun H4 s4 => fin _ s4⟩
                | lst l' e' n' r' => exact iteF ⟨_, rfl, _, _, rfl, .lst l' e' n' r', fun H4 s4 => fin _ s4⟩
                | tup e' n' r' => exact iteF ⟨_, rfl, _, _, rfl, .tup e' n' r', fun H4 s4 => fin _ s4⟩
              · rintro H3 ⟨s3, e3⟩
                refine ⟨D, [parD d3, parD d4], rfl, .inl (.inl e3), ?_⟩
                have e5 : ([parD d3, parD d4].all id) = (true && true && parD d3 && parD d4) := by
                  show (parD d3 && (parD d4 && true)) = _
                  rw [Bool.and_true, Bool.true_and, Bool.true_and]
                rw [e5]
                exact q _ (s2.trans s3)
    | _ => exact iteT (q _ (Same.refl _))
def kvE (E : List (Str × Str)) : List (Key × V) := E.map fun p => ((Sum.inr p.1 : Key), V.str p.2)
theorem kvE_put {E : List (Str × Str)} {n s : Str} (h : valV (kvE E) (Sum.inr n : Key) = none) : putK (kvE E) (Sum.inr n : Key) (.str s) = kvE (E ++ [(n, s)]) := by
  unfold putK
  rw [if_neg (by rw [valV_any, h]; exact Bool.false_ne_true)]
  unfold kvE
  rw [List.map_append]
  rfl
theorem valV_strs : ∀ (E : List (Str × Str)) (z : Str), valV (kvE E) (Sum.inr z : Key) = none ∨ ∃ s, valV (kvE E) (Sum.inr z : Key) = some (.str s)
  | [], _ => .inl rfl
  | (n, s) :: E, z => by
    show valV ((Sum.inr n, V.str s) :: kvE E) _ = none ∨ _
    by_cases e : n = z
    · refine .inr ⟨s, ?_⟩
      show valV ((Sum.inr n, V.str s) :: kvE E) _ = _
      rw [valV_pos (by show (Sum.inr n : Key) = Sum.inr z; rw [e])]
    · have hn : ¬ ((Sum.inr n : Key), V.str s).1 = Sum.inr z := fun y => e (Sum.inr.inj y)
      rcases valV_strs E z with h | ⟨s', h⟩
      · exact .inl (by rw [valV_neg hn]; exact h)
      · exact .inr ⟨s', by show valV ((Sum.inr n, V.str s) :: kvE E) _ = _; rw [valV_neg hn]; exact h⟩
/-- what a person's data is -/
theorem persD_is {d : PyData} (h : persD d = true) : ∃ zn zs f m, d = .tuple [.str zn, .str zs, f, m] ∧ (f = .none ∨ ∃ z, f = .str z) ∧ (m = .none ∨ ∃ z, m = .str z) := by
  have par : ∀ {f : PyData}, parD f = true → f = .none ∨ ∃ z, f = .str z := fun {f} h => by
    cases f with
    | none => exact .inl rfl
    | str z => exact .inr ⟨z, rfl⟩
    | _ => exact Bool.noConfusion h
  match d, h with
  | .tuple [n, s, f, m], h =>
    have h : (nameD n && sexD s && parD f && parD m) = true := h
    simp only [Bool.and_eq_true] at h
    obtain ⟨⟨⟨h1, h2⟩, h3⟩, h4⟩ := h
    cases n with
    | str zn =>
      cases s with
      | str zs => exact ⟨zn, zs, f, m, rfl, par h3, par h4⟩
      | _ => exact Bool.noConfusion h2
    | _ => exact Bool.noConfusion h1
  | .tuple [], h => exact Bool.noConfusion h
  | .tuple [_], h => exact Bool.noConfusion h
  | .tuple [_, _], h => exact Bool.noConfusion h
  | .tuple [_, _, _], h => exact Bool.noConfusion h
  | .tuple (_ :: _ :: _ :: _ :: _ :: _), h => exact Bool.noConfusion h
  | .none, h => exact Bool.noConfusion h
  | .bool _, h => exact Bool.noConfusion h
  | .int _, h => exact Bool.noConfusion h
  | .str _, h => exact Bool.noConfusion h
  | .list _, h => exact Bool.noConfusion h
  | .dict _, h => exact Bool.noConfusion h
theorem famGo_no {E : List (Str × Str)} {d : PyData} {r : List PyData} (h : persD d = false) : famGo E (d :: r) = false := by
  unfold famGo
  split
  · rename_i h'
    cases h'
  · rename_i h'
    obtain ⟨rfl, rfl⟩ := List.cons.inj h'
    rw [h]
    rfl
  · rfl
theorem famGo_yes {E : List (Str × Str)} {n s : Str} {f m : PyData} {r : List PyData} (h : persD (.tuple [.str n, .str s, f, m]) = true) :
    famGo E (.tuple [.str n, .str s, f, m] :: r) = ((valV (kvE E) (Sum.inr n : Key)).isNone && parE E "he" f && parE E "she" m && famGo (E ++ [(n, s)]) r) := by
  show (persD (.tuple [.str n, .str s, f, m]) && _ && _ && _ && _) = _
  rw [h, Bool.true_and]
  rfl
def sp_is_familyD : Sp := fun vs H Q _ => ∃ (x : V) (d : PyData), vs = [x] ∧ Td true H x d ∧ ∀ H', Same H H' → Q (.bl (famD d)) H'
theorem ok_is_familyD (T : Txt K mg) : FnOk P w K mg base CX0 4 T.a_is_family T.f_is_family ["thing"] sp_is_familyD := by
  have G_is_person : FnOk P w K mg base CX0 3 T.a_is_person T.f_is_person ["thing"] sp_is_personD := ok_is_personD T
  refine T.d_is_family.F.ok sc_is_family (fun vs H Q E h => ?_) (fun cdv A outer s H vs Q E hr h => ?_)
  · obtain ⟨x, d, rfl, _⟩ := h
    rfl
  · obtain ⟨x, d, rfl, td, q⟩ := h
    have hu := hu_of hr
    refine ⟨_, (pss_cons (ps_if (PW.pt (pw_or (pt_not (pt_val (pe_callB call_isi (by rfl) T.n_isinstance boot_isinstance (pa_cons (pv 0) (pa_cons (pe_bltn (v := .ty "tuple") (by rfl) T.n_tuple b_tuple rfl) pa_nil))))) (pw_or1 (pt_not (pt_chain op_le op_le pe_int (pe_callB call_len_seq (by rfl) T.n_len boot_len (pa_cons (pv 0) pa_nil)) (pe_gI rfl T.g_MOST_PERSONS))))))
        (pss_one (ps_ret pe_bl))
        pss_nil)
      (pss_cons (ps_set (i := 1) sc_is_family.nd rfl (Or.inl rfl) pe_dnewK)
      (pss_cons (ps_for PassesOwn.never rfl (pi_tup (pv 0)) (pg_name (i := 2) sc_is_family.nd rfl (Or.inl rfl))
        (pss_cons (ps_if (pt_not (pt_val (pe_call G_is_person (hr.mono (by decide)) rfl T.d_is_person.g T.d_is_person.F.kp T.d_is_person.b .nil pass0 (pa_cons (pv 2) pa_nil))))
          (pss_one (ps_ret pe_bl))
          pss_nil)
        (pss_cons (ps_asg (pv 2) (pg_tup rfl (pgs_cons (pg_name (i := 3) sc_is_family.nd rfl (Or.inl rfl)) (pgs_cons (pg_name (i := 4) sc_is_family.nd rfl (Or.inl rfl)) (pgs_cons (pg_name (i := 5) sc_is_family.nd rfl (Or.inl rfl)) (pgs_cons (pg_name (i := 6) sc_is_family.nd rfl (Or.inl rfl)) pgs_nil))))))
        (pss_cons (ps_if (pt_cmp (pc_din hu (pv 3) (pv 1)))
          (pss_one (ps_ret pe_bl))
          pss_nil)
        (pss_cons (ps_if (PW.pt (pw_and (pt_cmp (pc_notN (pv 5))) (pw_and1 (pt_cmpR op_ne (pe_dget1 hu (pv 1) (pv 5) ⟨rfl, rfl, rfl, rfl⟩) pe_str (nomark _)))))
          (pss_one (ps_ret pe_bl))
          pss_nil)
        (pss_cons (ps_if (PW.pt (pw_and (pt_cmp (pc_notN (pv 6))) (pw_and1 (pt_cmpR op_ne (pe_dget1 hu (pv 1) (pv 6) ⟨rfl, rfl, rfl, rfl⟩) pe_str (nomark _)))))
          (pss_one (ps_ret pe_bl))
          pss_nil)
        (pss_one (ps_dput hu (pv 1) (pv 3) (pv 4) rfl))))))))
      (pss_one (ps_ret pe_bl))))), ?_⟩
    obtain ⟨n, ty, _, kt, _⟩ := (td.ty (K := K)).ex
    refine ⟨x, rfl, x, .ty "tuple", .type n, .type "tuple", _, rfl, .ty "tuple", ty, kit_ty kt, _, rfl, ?_⟩
    cases td with
    | @tup a xs ds e nx r =>
      have hl := r.length
      have q : ∀ H', Same H H' → Q (.bl (decide (1 ≤ ds.length) && decide (ds.length ≤ 40) && famGo [] ds)) H' := q
      refine iteF ?_
      refine ⟨_, rfl, a, xs, rfl, .inr (.inl (.inl e)), ?_⟩
      rw [hl]
      refine ⟨_, _, rfl, rfl, _, rfl, ?_⟩
      by_cases h1 : 1 ≤ ds.length
      · rw [decide_eq_true h1] at q
        rw [decide_eq_true (show (1 : Int) ≤ ((ds.length : Nat) : Int) by omega)]
        refine iteT ?_
        refine ⟨_, _, rfl, rfl, _, rfl, ?_⟩
        by_cases h40 : ds.length ≤ 40
        · rw [decide_eq_true h40, Bool.true_and, Bool.true_and] at q
          rw [decide_eq_true (show ((ds.length : Nat) : Int) ≤ 40 by omega)]
          refine iteF ?_
          intro D nD
          refine ⟨_, rfl, a, rfl, ?_⟩
          have sD : Same H (upd H D (.dK [])) := same_upd nD
          have eD : upd H D (.dK []) D = some (.dK []) := upd_same
          generalize upd H D (.dK []) = H1 at sD eD ⊢
          have hS : ∀ H', Same H H' → SqT K H' a xs := fun H' s => .inl (.inl (s _ _ e))
          refine ⟨⟨_, hS _ sD⟩, for_tup (K := K) (a := a) (xs := xs) (fun i σ H' => Same H H' ∧ ∃ (E : List (Str × Str)) (x2 x3 x4 x5 x6 : Option V), H' D = some (.dK (kvE E)) ∧ famGo [] ds = famGo E (ds.drop i) ∧ E.length = i ∧ σ = [some (.ref a), some (.ref D), x2, x3, x4, x5, x6])
            ⟨sD, [], _, _, _, _, _, eD, rfl, rfl, rfl⟩ (fun i σ H' _ p => hS H' p.1) ?_ ?_⟩
          · rintro i v σ H2 ev ⟨s2, E, x2, x3, x4, x5, x6, e2, hE, hEl, rfl⟩
            obtain ⟨d, ed, tdv⟩ := r.get ev
            have hi : i < ds.length := (List.getElem?_eq_some_iff.mp ed).1
            have hdrop : ds.drop i = d :: ds.drop (i + 1) := by
              rw [List.drop_eq_getElem_cons hi]
              congr 1
              exact Option.some.inj ((List.getElem?_eq_getElem hi).symm.trans ed)
            rw [hdrop] at hE
            refine ⟨_, rfl, v, d, rfl, tdv.mono s2, fun H3 s3 => ⟨_, rfl, ?_⟩⟩
            have s23 := s2.trans s3
            have e3 := s3 _ _ e2
            cases hp : persD d with
            | false =>
              rw [famGo_no hp] at hE
              rw [hE] at q
              exact iteT (q _ s23)
            | true =>
              refine iteF ?_
              obtain ⟨zn, zs, f, m, rfl, hf, hm⟩ := persD_is hp
              rw [famGo_yes hp] at hE
              have tdv := tdv.mono s23
              cases tdv with
              | @tup Tp ys _ eT _ rr =>
                match ys, rr with
                | [_, _, vf, vm], .cons (.str z1) (.cons (.str z2) (.cons tf (.cons tm .nil))) =>
                  refine ⟨_, rfl, Tp, _, rfl, .inl (.inl eT), rfl, _, _, rfl, _, _, rfl, _, _, rfl, _, _, rfl, rfl, ?_⟩
                  refine ⟨_, rfl, _, rfl, D, _, rfl, DGet.k (k := Sum.inr zn) e3, _, rfl, ?_⟩
                  cases hv : valV (kvE E) (Sum.inr zn : Key) with
                  | some y =>
                    rw [hv] at hE
                    have hE : famGo [] ds = false := hE
                    rw [hE] at q
                    exact iteT (q _ s23)
                  | none =>
                    rw [hv] at hE
                    have hE : famGo [] ds = (true && parE E "he" f && parE E "she" m && famGo (E ++ [(zn, zs)]) (ds.drop (i + 1))) := hE
                    rw [Bool.true_and] at hE
                    refine iteF ?_
                    have isd : IsD H3 D := .inl ⟨_, .inl e3⟩
                    have hkl : (kvE E).length < sizeLine := by
                      unfold kvE
                      rw [List.length_map, sizeLine_eq]
                      omega
                    have fin : famGo [] ds = famGo (E ++ [(zn, zs)]) (ds.drop (i + 1)) → (Same H (upd H3 D (.dK (putK (kvE E) (Sum.inr zn : Key) (.str zs)))) ∧ ∃ (E' : List (Str × Str)) (x2 x3 x4 x5 x6 : Option V), upd H3 D (.dK (putK (kvE E) (Sum.inr zn : Key) (.str zs))) D = some (.dK (kvE E')) ∧ famGo [] ds = famGo E' (ds.drop (i + 1)) ∧ E'.length = i + 1 ∧
                        [some (V.ref a), some (.ref D), some (.ref Tp), some (.str zn), some (.str zs), some vf, some vm] = [some (.ref a), some (.ref D), x2, x3, x4, x5, x6]) := fun hh =>
                      ⟨same_set s23 nD, E ++ [(zn, zs)], _, _, _, _, _, by rw [upd_same, kvE_put hv], hh, by rw [List.length_append, hEl]; rfl, rfl⟩
                    have get : ∀ (z s' : Str), (parE E s' (.str z) = true ∧ valV (kvE E) (Sum.inr z : Key) = some (.str s')) ∨ (parE E s' (.str z) = false ∧ (!decide ((valV (kvE E) (Sum.inr z : Key)).getD .non = V.str s')) = true ∧ scal ((valV (kvE E) (Sum.inr z : Key)).getD .non) (V.str s') = true) := fun z s' => by
                      have he : parE E s' (.str z) = decide (valV (kvE E) (Sum.inr z : Key) = some (.str s')) := rfl
                      rcases valV_strs E z with h | ⟨s2, h⟩
                      · refine .inr ⟨by rw [he, h]; exact decide_eq_false (fun y => by cases y), by rw [h]; rfl, by rw [h]; rfl⟩
                      · by_cases hs : s2 = s'
                        · subst hs
                          exact .inl ⟨by rw [he, h]; exact decide_eq_true rfl, h⟩
                        · refine .inr ⟨by rw [he, h]; exact decide_eq_false (fun y => hs (V.str.inj (Option.some.inj y))), ?_, by rw [h]; rfl⟩
                          rw [h]
                          show (!decide (V.str s2 = V.str s')) = true
                          rw [decide_eq_false (fun y => hs (V.str.inj y))]
                          rfl
                    have stop : famGo [] ds = false → Q (.bl false) H3 := fun hh => by
                      rw [hh] at q
                      exact q _ s23
                    have put : famGo [] ds = famGo (E ++ [(zn, zs)]) (ds.drop (i + 1)) → True := fun _ => trivial
                    refine ⟨_, rfl, _, rfl, ?_⟩
                    rcases hf with rfl | ⟨zf, rfl⟩
                    · cases tf
                      have hE : famGo [] ds = (parE E "she" m && famGo (E ++ [(zn, zs)]) (ds.drop (i + 1))) := by rw [hE]; rfl
                      refine iteF ?_
                      refine iteF ?_
                      refine ⟨_, rfl, _, rfl, ?_⟩
                      rcases hm with rfl | ⟨zm, rfl⟩
                      · cases tm
                        refine iteF ?_
                        refine iteF ?_
                        exact ⟨_, rfl, _, rfl, _, rfl, D, _, rfl, DPut.k (k := Sum.inr zn) e3 hkl, fin (by rw [hE]; rfl)⟩
                      · cases tm
                        refine iteT ?_
                        refine ⟨_, rfl, D, rfl, isd, _, rfl, _, DGet.k (k := Sum.inr zm) e3, ?_⟩
                        rcases get zm "she" with ⟨p1, p2⟩ | ⟨p1, p2, p3⟩
                        · rw [p2]
                          refine ⟨rfl, _, rfl, ?_⟩
                          refine iteF ?_
                          exact ⟨_, rfl, _, rfl, _, rfl, D, _, rfl, DPut.k (k := Sum.inr zn) e3 hkl, fin (by rw [hE, p1, Bool.true_and])⟩
                        · refine ⟨p3, _, rfl, ?_⟩
                          rw [p2]
                          exact iteT (stop (by rw [hE, p1]; rfl))
                    · cases tf
                      refine iteT ?_
                      refine ⟨_, rfl, D, rfl, isd, _, rfl, _, DGet.k (k := Sum.inr zf) e3, ?_⟩
                      rcases get zf "he" with ⟨p1, p2⟩ | ⟨p1, p2, p3⟩
                      · rw [p2]
                        refine ⟨rfl, _, rfl, ?_⟩
                        refine iteF ?_
                        have hE : famGo [] ds = (parE E "she" m && famGo (E ++ [(zn, zs)]) (ds.drop (i + 1))) := by rw [hE, p1, Bool.true_and]
                        refine ⟨_, rfl, _, rfl, ?_⟩
                        rcases hm with rfl | ⟨zm, rfl⟩
                        · cases tm
                          refine iteF ?_
                          refine iteF ?_
                          exact ⟨_, rfl, _, rfl, _, rfl, D, _, rfl, DPut.k (k := Sum.inr zn) e3 hkl, fin (by rw [hE]; rfl)⟩
                        · cases tm
                          refine iteT ?_
                          refine ⟨_, rfl, D, rfl, isd, _, rfl, _, DGet.k (k := Sum.inr zm) e3, ?_⟩
                          rcases get zm "she" with ⟨p1, p2⟩ | ⟨p1, p2, p3⟩
                          · rw [p2]
                            refine ⟨rfl, _, rfl, ?_⟩
                            refine iteF ?_
                            exact ⟨_, rfl, _, rfl, _, rfl, D, _, rfl, DPut.k (k := Sum.inr zn) e3 hkl, fin (by rw [hE, p1, Bool.true_and])⟩
                          · refine ⟨p3, _, rfl, ?_⟩
                            rw [p2]
                            exact iteT (stop (by rw [hE, p1]; rfl))
                      · refine ⟨p3, _, rfl, ?_⟩
                        rw [p2]
                        exact iteT (stop (by rw [hE, p1]; rfl))
          · rintro σ H2 ⟨s2, E, x2, x3, x4, x5, x6, e2, hE, hEl, rfl⟩
            rw [List.drop_eq_nil_of_le (by omega)] at hE
            have hE : famGo [] ds = true := hE
            rw [hE] at q
            exact q _ s2
        · rw [decide_eq_false h40] at q
          rw [decide_eq_false (show ¬ ((ds.length : Nat) : Int) ≤ 40 by omega)]
          exact iteT (q _ (Same.refl _))
      · rw [decide_eq_false h1] at q
        rw [decide_eq_false (show ¬ (1 : Int) ≤ ((ds.length : Nat) : Int) by omega)]
        refine iteF ?_
        exact ⟨_, rfl, iteT (q _ (Same.refl _))⟩
    | _ => exact iteT (q _ (Same.refl _))
theorem ok_need_familyD (T : Txt K mg) : FnOk P w K mg base (L2.CX P w) 5 T.a_need_family T.f_need_family ["thing"] (sp_need famD T.aF) := by
  have G_is_family : FnOk P w K mg base CX0 4 T.a_is_family T.f_is_family ["thing"] sp_is_familyD := ok_is_familyD T
  refine T.d_need_family.F.okX sc_need_family (fun vs H Q E h => ?_) (fun cdv A outer s H vs Q E hr h => ?_)
  · obtain ⟨x, d, rfl, _⟩ := h
    rfl
  · obtain ⟨x, d, rfl, td, q⟩ := h
    refine ⟨_, (pss_one (ps_if (pt_not (pt_val (pe_call G_is_family (hr.mono (by decide)) rfl T.d_is_family.g T.d_is_family.F.kp T.d_is_family.b .nil pass0 (pa_cons (pv 0) pa_nil))))
        (pss_one (ps_raise rfl (takes_of rfl rfl rfl rfl) (pmk_own PySem.F.excBase_ValueError T.c_NoFamily.x T.c_NoFamily.g T.c_NoFamily.k (raises_own T.c_NoFamily.b T.c_NoFamily.t) (by exact rfl))))
        pss_nil)), ?_⟩
    refine ⟨x, rfl, x, d, rfl, td, fun H1 s1 => ⟨_, rfl, ?_⟩⟩
    obtain ⟨q1, q2⟩ := q H1 s1
    cases e : famD d with
    | true => exact iteF (q1 e)
    | false => exact iteT (q2 e)
end
end K19

set_option maxHeartbeats 2000000
namespace K19
open PySem PySem.Spec PyProof.Rows L2 Kin
section
variable {P : Program} {w : World} {K : PySem.W.Frag} {mg : Str → Option Value} {base : Heap}
theorem mixed_small (x : Int) : (x % 2147483647).natAbs < 2 ^ 64 := by
  have h1 := Int.emod_nonneg x (b := 2147483647) (by decide)
  have h2 := Int.emod_lt_of_pos x (b := 2147483647) (by decide)
  omega
theorem ok_draw (T : Txt K mg) : FnOk P w K mg base CX0 1 T.a_law_draw T.f_law_draw ["_law_script", "_law_town", "_law_many"] (sp_draw K) := by
  refine T.d_law_draw.F.ok sc_law_draw (fun vs H Q E h => ?_) (fun cdv A outer s H vs Q E hr h => ?_)
  · obtain ⟨a, p, ns, m, rfl, _⟩ := h
    rfl
  · obtain ⟨a, p, ns, m, rfl, hB, hl, ⟨i, j, hi, hp⟩, m0, m1, q⟩ := h
    have hS : SqL K H a (ns.map V.int) := hB H (SameBut.refl p H)
    refine ⟨_, (pss_cons (ps_if (pt_cmpR op_gt (pe_ix ix_list (pv 1) pe_int (fun _ _ => rfl)) pe_int (nomark _))
        (pss_cons (ps_set (i := 5) sc_law_draw.nd rfl (Or.inl rfl) (pe_op op_mod (pe_ix ix_list (pv 1) pe_int (fun _ _ => rfl)) (pv 2)))
        (pss_cons (ps_asg (pe_op op_fdiv (pe_ix ix_list (pv 1) pe_int (fun _ _ => rfl)) (pv 2)) (pg_sub (pv 1) pe_int set_list))
        (pss_one (ps_ret (pv 5)))))
        pss_nil)
      (pss_cons (ps_set (i := 3) sc_law_draw.nd rfl (Or.inl rfl) (pe_ix ix_list (pv 1) pe_int (fun _ _ => rfl)))
      (pss_cons (ps_augS (pv 1) pe_int get_list pe_int ip_add set_list)
      (pss_cons (ps_if (pt_cmpR (op_eqD hr.units) (pv 0) (pe_lst pa_nil) (nomark _))
        (pss_one (ps_ret (pe_op op_mod (pv 3) (pv 2))))
        pss_nil)
      (pss_cons (ps_if (PW.pt (pw_and (pt_cmpR op_lt (pv 3) (pe_callB call_len_seq (by rfl) T.n_len boot_len (pa_cons (pv 0) pa_nil)) (nomark _)) (pw_and1 (pt_cmpR op_ge (pe_ix ix_list (pv 0) (pv 3) (fun _ _ => rfl)) (pe_op op_pow pe_int pe_int) (nomark _)))))
        (pss_cons (ps_asg (pe_op op_mod (pe_op op_fdiv (pe_ix ix_list (pv 0) (pv 3) (fun _ _ => rfl)) (pv 2)) (pe_op op_mulW (pe_op op_pow pe_int pe_int) (pe_op op_pow pe_int pe_int))) (pg_sub (pv 1) pe_int set_list))
        (pss_one (ps_ret (pe_op op_mod (pe_ix ix_list (pv 0) (pv 3) (fun _ _ => rfl)) (pv 2)))))
        pss_nil)
      (pss_cons (ps_set (i := 4) sc_law_draw.nd rfl (Or.inl rfl) (pe_op op_mod (pe_op op_add (pe_op op_add (pe_op op_mul (pe_ix ix_list (pv 0) (pe_op op_mod (pv 3) (pe_callB call_len_seq (by rfl) T.n_len boot_len (pa_cons (pv 0) pa_nil))) (fun _ _ => rfl)) pe_int) (pe_op op_mul pe_int (pv 3))) pe_int) pe_int))
      (pss_one (ps_ret (pe_op op_mod (pe_op op_mod (pe_op op_mod (pe_op op_pow (pv 4) pe_int) pe_int) pe_int) (pv 2)))))))))), ?_⟩
    have hL : SqL K H p [.int i, .int j] := .inl (.inl hp)
    have t1 : atI [V.int i, V.int j] 1 = some (V.int j) := rfl
    have t0 : atI [V.int i, V.int j] 0 = some (V.int i) := rfl
    have x1 : ixN [V.int i, V.int j].length 1 = some 1 := rfl
    have x0 : ixN [V.int i, V.int j].length 0 = some 0 := rfl
    refine ⟨_, rfl, p, _, 1, _, rfl, rfl, hL, t1, _, _, rfl, rfl, _, rfl, ?_⟩
    refine ite2 (fun _ => ?_) (fun _ => ?_)
    · -- what is left of a great one
      refine ⟨_, rfl, p, _, 1, _, rfl, rfl, hL, t1, _, rfl, _, _, rfl, rfl, m0, ?_⟩
      refine ⟨_, rfl, p, _, 1, _, rfl, rfl, hL, t1, _, rfl, _, _, rfl, rfl, ⟨m0, m1⟩, ?_⟩
      refine ⟨_, rfl, p, _, 1, 1, rfl, rfl, hp, x1, ?_⟩
      refine ⟨_, rfl, ?_⟩
      exact q _ _ (Int.emod_nonneg _ (by omega)) (Int.emod_lt_of_pos _ m0) ⟨i, _, hi, upd_same⟩ (SameBut.refl p H).upd
    · -- the next cell
      refine ⟨_, rfl, p, _, 0, _, rfl, rfl, hL, t0, ?_⟩
      refine ⟨_, rfl, p, _, 0, _, rfl, rfl, hL, by decide, rfl, i, 1, rfl, rfl, p, _, 0, 0, rfl, rfl, hp, x0, ?_⟩
      have hp1 : (upd H p (.lst ([V.int i, V.int j].set 0 (.int (i + 1))))) p = some (.lst [.int (i + 1), .int j]) := upd_same
      have b1 : SameBut p H (upd H p (.lst ([V.int i, V.int j].set 0 (.int (i + 1))))) := (SameBut.refl p H).upd
      generalize upd H p (.lst ([V.int i, V.int j].set 0 (.int (i + 1)))) = H1 at hp1 b1 ⊢
      have hS1 : SqL K H1 a (ns.map V.int) := hB _ b1
      -- script == []
      refine ⟨_, rfl, Nat.zero_le _, fun l nl => ?_⟩
      have nlp : p ≠ l := ne_of_none hp1 nl
      have b2 : SameBut p H (upd H1 l (.lst [])) := b1.lay nl
      have hp2 : (upd H1 l (.lst [])) p = some (.lst [.int (i + 1), .int j]) := by rw [upd_ne nlp]; exact hp1
      have hl2 : (upd H1 l (.lst [])) l = some (.lst []) := upd_same
      generalize upd H1 l (.lst []) = H2 at b2 hp2 hl2 ⊢
      have hS2 : SqL K H2 a (ns.map V.int) := hB _ b2
      have hL2 : SqL K H2 p [.int (i + 1), .int j] := .inl (.inl hp2)
      have x1' : ixN [V.int (i + 1), V.int j].length 1 = some 1 := rfl
      refine ⟨.list (ns.map PyData.int), .list [], .lst hS2 (dp_ints ns), .lst (.inl (.inl hl2)) .nil, shaped_ints ns, by decide +kernel, _, rfl, ?_⟩
      cases ns with
      | nil =>
        refine iteT ?_
        refine ⟨_, rfl, _, rfl, _, _, rfl, rfl, m0, ?_⟩
        exact q _ _ (Int.emod_nonneg _ (by omega)) (Int.emod_lt_of_pos _ m0) ⟨_, _, by omega, hp2⟩ b2
      | cons n0 ns0 =>
        refine iteF ?_
        generalize hns : n0 :: ns0 = ns at hl hS hS2 hS1 hB ⊢
        have hpos : 0 < ns.length := by rw [← hns]; exact Nat.succ_pos _
        clear hns
        have hlen : ((ns.map V.int).length : Int) = (ns.length : Int) := by rw [List.length_map]
        refine ⟨_, rfl, _, rfl, a, _, rfl, .inl hS2, _, _, rfl, rfl, _, rfl, ?_⟩
        have it : atI (ns.map V.int) (i % ((ns.map V.int).length : Int)) = some (.int (ns.getD (i % (ns.length : Int)).toNat 0)) := by
          have h1 := Int.emod_nonneg i (b := (ns.length : Int)) (by omega)
          have h2 := Int.emod_lt_of_pos i (b := (ns.length : Int)) (by omega)
          rw [hlen]
          refine at_of (j := (i % (ns.length : Int)).toNat) (by omega) ?_
          rw [List.getElem?_map, getD_some (l := ns) (d := 0) (by omega)]
          rfl
        show (if decide (i < ((ns.map V.int).length : Int)) = true then _ else _)
        by_cases c1 : i < ((ns.map V.int).length : Int)
        · rw [decide_eq_true c1]
          refine iteT ?_
          have it2 : atI (ns.map V.int) i = some (.int (ns.getD i.toNat 0)) := by
            refine at_of (j := i.toNat) (by omega) ?_
            rw [List.getElem?_map, getD_some (l := ns) (d := 0) (by omega)]
            rfl
          refine ⟨_, rfl, _, rfl, a, _, i, _, rfl, rfl, hS2, it2, _, _, rfl, rfl, ⟨by decide, by decide, by decide⟩, _, _, rfl, rfl, _, rfl, ?_⟩
          refine ite2 (fun _ => ?_) (fun _ => ?_)
          · refine ⟨_, rfl, _, rfl, a, _, i, _, rfl, rfl, hS2, it2, _, rfl, _, _, rfl, rfl, ⟨m0, m1⟩, _, _, rfl, rfl, ⟨by decide, by decide, by decide⟩, _, _, rfl, rfl, ⟨by decide, by decide, by decide⟩, ?_⟩
            refine ⟨_, _, rfl, rfl, wide_mul (a := 200) (b := 200) (by decide +kernel) (by decide +kernel) (by decide) (by decide) (by decide), _, _, rfl, rfl, (show (0 : Int) < 10 ^ Int.toNat 60 * 10 ^ Int.toNat 60 by decide +kernel), ?_⟩
            refine ⟨_, rfl, p, _, 1, 1, rfl, rfl, hp2, x1', ?_⟩
            refine ⟨_, rfl, _, rfl, a, _, i, _, rfl, rfl, hB _ b2.upd, it2, _, rfl, _, _, rfl, rfl, m0, ?_⟩
            exact q _ _ (Int.emod_nonneg _ (by omega)) (Int.emod_lt_of_pos _ m0) ⟨i + 1, _, by omega, upd_same⟩ b2.upd
          · refine ⟨_, rfl, _, rfl, _, rfl, a, _, rfl, .inl hS2, _, _, rfl, rfl, (by show (0 : Int) < ((ns.map V.int).length : Int); omega), a, _, _, _, rfl, rfl, hS2, it, ?_⟩
            refine ⟨_, _, rfl, rfl, .inr ⟨by decide, by decide⟩, _, rfl, _, _, rfl, rfl, .inl ⟨by decide, by decide⟩, _, _, rfl, rfl, _, _, rfl, rfl, _, _, rfl, rfl, (show (0 : Int) < 2147483647 by decide), ?_⟩
            refine ⟨_, rfl, _, _, rfl, rfl, ⟨by decide, by decide, mixed_small _⟩, _, _, rfl, rfl, (show (0 : Int) < 2147483647 by decide), _, _, rfl, rfl, (show (0 : Int) < 999983 by decide), _, rfl, _, _, rfl, rfl, m0, ?_⟩
            exact q _ _ (Int.emod_nonneg _ (by omega)) (Int.emod_lt_of_pos _ m0) ⟨_, _, by omega, hp2⟩ b2
        · rw [decide_eq_false c1]
          refine iteF ?_
          refine ⟨_, rfl, _, rfl, _, rfl, a, _, rfl, .inl hS2, _, _, rfl, rfl, (by show (0 : Int) < ((ns.map V.int).length : Int); omega), a, _, _, _, rfl, rfl, hS2, it, ?_⟩
          refine ⟨_, _, rfl, rfl, .inr ⟨by decide, by decide⟩, _, rfl, _, _, rfl, rfl, .inl ⟨by decide, by decide⟩, _, _, rfl, rfl, _, _, rfl, rfl, _, _, rfl, rfl, (show (0 : Int) < 2147483647 by decide), ?_⟩
          refine ⟨_, rfl, _, _, rfl, rfl, ⟨by decide, by decide, mixed_small _⟩, _, _, rfl, rfl, (show (0 : Int) < 2147483647 by decide), _, _, rfl, rfl, (show (0 : Int) < 999983 by decide), _, rfl, _, _, rfl, rfl, m0, ?_⟩
          exact q _ _ (Int.emod_nonneg _ (by omega)) (Int.emod_lt_of_pos _ m0) ⟨_, _, by omega, hp2⟩ b2
theorem ok_pick (T : Txt K mg) : FnOk P w K mg base CX0 2 T.a_law_pick T.f_law_pick ["_law_script", "_law_town", "_law_some"] (sp_pick K) := by
  have G_law_draw : FnOk P w K mg base CX0 1 T.a_law_draw T.f_law_draw ["_law_script", "_law_town", "_law_many"] (sp_draw K) := ok_draw T
  refine T.d_law_pick.F.ok sc_law_pick (fun vs H Q E h => ?_) (fun cdv A outer s H vs Q E hr h => ?_)
  · obtain ⟨a, p, l, ns, xs, rfl, _⟩ := h
    rfl
  · obtain ⟨a, p, l, ns, xs, rfl, hB, hl, ht, hX, nlp, nx, hx, q⟩ := h
    refine ⟨_, (pss_one (ps_ret (pe_ix ix_list (pv 2) (pe_call G_law_draw (hr.mono (by decide)) rfl T.d_law_draw.g T.d_law_draw.F.kp T.d_law_draw.b .nil pass0 (pa_cons (pv 0) (pa_cons (pv 1) (pa_cons (pe_callB call_len_seq (by rfl) T.n_len boot_len (pa_cons (pv 2) pa_nil)) pa_nil)))) (fun _ _ => rfl)))), ?_⟩
    have hpos : 0 < xs.length := List.length_pos_iff.mpr nx
    refine ⟨_, rfl, _, rfl, _, rfl, _, rfl, l, _, rfl, .inl hX, ?_⟩
    refine ⟨a, p, ns, _, rfl, hB, hl, ht, by omega, by omega, fun H' r r0 r1 ht' sb => ?_⟩
    have e : atI xs r = some (xs.getD r.toNat .non) := at_of (j := r.toNat) (by omega) (getD_some (by omega))
    refine ⟨l, xs, r, _, rfl, rfl, sb.seq nlp hX, e, ?_⟩
    refine q H' _ ?_ ht' sb
    exact List.mem_of_getElem? (getD_some (l := xs) (k := r.toNat) (d := .non) (by omega))
end
end K19

set_option maxHeartbeats 2000000
namespace K19
open PySem PySem.Spec PyProof.Rows L2 Kin
/-- the fourteen refusals, in the law's order -/
structure Cls (K : PySem.W.Frag) (mg : Str → Option Value) where
  c0 : Addr
  c1 : Addr
  c2 : Addr
  c3 : Addr
  c4 : Addr
  c5 : Addr
  c6 : Addr
  c7 : Addr
  c8 : Addr
  c9 : Addr
  c10 : Addr
  c11 : Addr
  c12 : Addr
  c13 : Addr
  g0 : mg "NoFamily" = some (.ref c0)
  g1 : mg "NotPlain" = some (.ref c1)
  g2 : mg "NoName" = some (.ref c2)
  g3 : mg "NoSex" = some (.ref c3)
  g4 : mg "NoRow" = some (.ref c4)
  g5 : mg "NoSpeech" = some (.ref c5)
  g6 : mg "NotSure" = some (.ref c6)
  g7 : mg "NoWord" = some (.ref c7)
  g8 : mg "TooMany" = some (.ref c8)
  g9 : mg "NoParent" = some (.ref c9)
  g10 : mg "Taken" = some (.ref c10)
  g11 : mg "Full" = some (.ref c11)
  g12 : mg "NoDeed" = some (.ref c12)
  g13 : mg "NoText" = some (.ref c13)
  n_ValueError : mg "ValueError" = none
/-- D is the j-th of them, and a ValueError -/
structure IsJ (K : PySem.W.Frag) (mg : Str → Option Value) (C : Cls K mg) (D : Addr) (j : Nat) : Prop where
  ex : ExcC K D
  lt : j < 14
  k0 : PySem.W.kitOne K (.ref D) (.ref C.c0) = some (decide (j = 0))
  k1 : PySem.W.kitOne K (.ref D) (.ref C.c1) = some (decide (j = 1))
  k2 : PySem.W.kitOne K (.ref D) (.ref C.c2) = some (decide (j = 2))
  k3 : PySem.W.kitOne K (.ref D) (.ref C.c3) = some (decide (j = 3))
  k4 : PySem.W.kitOne K (.ref D) (.ref C.c4) = some (decide (j = 4))
  k5 : PySem.W.kitOne K (.ref D) (.ref C.c5) = some (decide (j = 5))
  k6 : PySem.W.kitOne K (.ref D) (.ref C.c6) = some (decide (j = 6))
  k7 : PySem.W.kitOne K (.ref D) (.ref C.c7) = some (decide (j = 7))
  k8 : PySem.W.kitOne K (.ref D) (.ref C.c8) = some (decide (j = 8))
  k9 : PySem.W.kitOne K (.ref D) (.ref C.c9) = some (decide (j = 9))
  k10 : PySem.W.kitOne K (.ref D) (.ref C.c10) = some (decide (j = 10))
  k11 : PySem.W.kitOne K (.ref D) (.ref C.c11) = some (decide (j = 11))
  k12 : PySem.W.kitOne K (.ref D) (.ref C.c12) = some (decide (j = 12))
  k13 : PySem.W.kitOne K (.ref D) (.ref C.c13) = some (decide (j = 13))
  kv : PySem.W.kitOne K (.ref D) (.type "ValueError") = some true
def own (j : Nat) : List V := [.bl (decide (j = 0)), .bl (decide (j = 1)), .bl (decide (j = 2)), .bl (decide (j = 3)), .bl (decide (j = 4)), .bl (decide (j = 5)), .bl (decide (j = 6)), .bl (decide (j = 7)), .bl (decide (j = 8)), .bl (decide (j = 9)), .bl (decide (j = 10)),
  .bl (decide (j = 11)), .bl (decide (j = 12)), .bl (decide (j = 13))]
theorem own_flat (j : Nat) : (own j).all flatV = true := rfl
theorem own_count : ∀ j : _root_.Fin 14, ((own j.val).countP fun z => eqV z (.bl true)) = 1 := by decide +kernel
theorem own_at : ∀ j : _root_.Fin 14, (own j.val)[j.val]? = some (.bl true) := by decide +kernel
theorem own_ahead : ∀ j m : _root_.Fin 14, m < j → (own j.val)[m.val]? = some (.bl false) := by decide +kernel
/-- the exception is told by its number -/
def sp_which (K : PySem.W.Frag) (mg : Str → Option Value) (C : Cls K mg) : Addr → Value → Sp := fun a c vs H Q _ => ∃ (D : Addr) (j : Nat), c = .ref D ∧ IsJ K mg C D j ∧ vs = [.ref a] ∧ ∀ H' t, Same H H' → H t = none → H' t = some (.tup [.str "refused", .int (j : Nat)]) → Q (.ref t) H'
section
variable {P : Program} {w : World} {K : PySem.W.Frag} {mg : Str → Option Value} {base : Heap}
theorem ok_which {f : Addr} {fd : FuncData} (C : Cls K mg) (ni : mg "isinstance" = none) (d : Df K mg "_law_which" s_law_which ["_law_e"] f fd) : FnP P w K mg base 1 f fd ["_law_e"] (sp_which K mg C) := by
  refine fn_ofP d.F sc_law_which (fun a c vs H Q E h => ?_) (fun cdv A outer s H vs Q E p c hc hr h => ?_)
  · obtain ⟨_, _, _, _, rfl, _⟩ := h
    rfl
  · obtain ⟨D, j, rfl, J, rfl, q⟩ := h
    have hp : p ∈ (L2H.cxH CX0 P w K mg base N_law_which "_law_which" (defScope s_law_which) f cdv A outer s H E p).pn := List.mem_cons_self
    have ii := call_isP (X := L2H.cxH CX0 P w K mg base N_law_which "_law_which" (defScope s_law_which) f cdv A outer s H E p) (D := D) (p := p) J.ex hp hc
    refine ⟨_, (pss_cons (ps_set (i := 1) sc_law_which.nd rfl (Or.inl rfl) (pe_lst (pa_cons (pe_callB ii (by rfl) ni boot_isinstance (pa_cons (pv 0) (pa_cons (pe_gR rfl C.g0) pa_nil))) (pa_cons (pe_callB ii (by rfl) ni boot_isinstance (pa_cons (pv 0) (pa_cons (pe_gR rfl C.g1) pa_nil))) (pa_cons (pe_callB ii (by rfl) ni boot_isinstance (pa_cons (pv 0) (pa_cons (pe_gR rfl C.g2) pa_nil))) (pa_cons (pe_callB ii (by rfl) ni boot_isinstance (pa_cons (pv 0) (pa_cons (pe_gR rfl C.g3) pa_nil))) pa_nil))))))
      (pss_cons (ps_expr (pe_bm PySem.F.plainAttrs_list PySem.F.slot_list_extend PySem.F.type_list_extend mt_extend (pv 1) (pa_cons (pe_lst (pa_cons (pe_callB ii (by rfl) ni boot_isinstance (pa_cons (pv 0) (pa_cons (pe_gR rfl C.g4) pa_nil))) (pa_cons (pe_callB ii (by rfl) ni boot_isinstance (pa_cons (pv 0) (pa_cons (pe_gR rfl C.g5) pa_nil))) (pa_cons (pe_callB ii (by rfl) ni boot_isinstance (pa_cons (pv 0) (pa_cons (pe_gR rfl C.g6) pa_nil))) pa_nil)))) pa_nil)))
      (pss_cons (ps_expr (pe_bm PySem.F.plainAttrs_list PySem.F.slot_list_extend PySem.F.type_list_extend mt_extend (pv 1) (pa_cons (pe_lst (pa_cons (pe_callB ii (by rfl) ni boot_isinstance (pa_cons (pv 0) (pa_cons (pe_gR rfl C.g7) pa_nil))) pa_nil)) pa_nil)))
      (pss_cons (ps_expr (pe_bm PySem.F.plainAttrs_list PySem.F.slot_list_extend PySem.F.type_list_extend mt_extend (pv 1) (pa_cons (pe_lst (pa_cons (pe_callB ii (by rfl) ni boot_isinstance (pa_cons (pv 0) (pa_cons (pe_gR rfl C.g8) pa_nil))) (pa_cons (pe_callB ii (by rfl) ni boot_isinstance (pa_cons (pv 0) (pa_cons (pe_gR rfl C.g9) pa_nil))) (pa_cons (pe_callB ii (by rfl) ni boot_isinstance (pa_cons (pv 0) (pa_cons (pe_gR rfl C.g10) pa_nil))) pa_nil)))) pa_nil)))
      (pss_cons (ps_expr (pe_bm PySem.F.plainAttrs_list PySem.F.slot_list_extend PySem.F.type_list_extend mt_extend (pv 1) (pa_cons (pe_lst (pa_cons (pe_callB ii (by rfl) ni boot_isinstance (pa_cons (pv 0) (pa_cons (pe_gR rfl C.g11) pa_nil))) pa_nil)) pa_nil)))
      (pss_cons (ps_expr (pe_bm PySem.F.plainAttrs_list PySem.F.slot_list_extend PySem.F.type_list_extend mt_extend (pv 1) (pa_cons (pe_lst (pa_cons (pe_callB ii (by rfl) ni boot_isinstance (pa_cons (pv 0) (pa_cons (pe_gR rfl C.g12) pa_nil))) (pa_cons (pe_callB ii (by rfl) ni boot_isinstance (pa_cons (pv 0) (pa_cons (pe_gR rfl C.g13) pa_nil))) pa_nil))) pa_nil)))
      (pss_cons (ps_if (PW.pt (pw_or (pt_cmpR op_ne (pe_bm PySem.F.plainAttrs_list PySem.F.slot_list_count PySem.F.type_list_count mt_countF (pv 1) (pa_cons pe_bl pa_nil)) pe_int (nomark _)) (pw_or1 (pt_not (pt_val (pe_callB ii (by rfl) ni boot_isinstance (pa_cons (pv 0) (pa_cons (pe_bltn (v := .ty "ValueError") (by rfl) C.n_ValueError b_ValueError rfl) pa_nil))))))))
        (pss_one (ps_ret (pe_tup (pa_cons pe_str (pa_cons (pe_un un_neg pe_int) pa_nil)))))
        pss_nil)
      (pss_one (ps_ret (pe_tup (pa_cons pe_str (pa_cons (pe_bm PySem.F.plainAttrs_list PySem.F.slot_list_index PySem.F.type_list_index mt_index (pv 1) (pa_cons pe_bl pa_nil)) pa_nil)))))))))))), ?_⟩
    have rr : ∀ {a : Addr} (u : Value), L2.RelV (V.ref a) u → u = Value.ref a := fun _ r => r
    refine ⟨_, rfl, _, _, _, rfl, rr, J.k0, _, rfl, _, _, _, rfl, rr, J.k1, _, rfl, _, _, _, rfl, rr, J.k2, _, rfl, _, _, _, rfl, rr, J.k3, (by show 4 ≤ sizeLine; decide), fun l nl => ?_⟩
    have e0 : (upd H l (.lst [.bl (decide (j = 0)), .bl (decide (j = 1)), .bl (decide (j = 2)), .bl (decide (j = 3))])) l = some (.lst [.bl (decide (j = 0)), .bl (decide (j = 1)), .bl (decide (j = 2)), .bl (decide (j = 3))]) := upd_same
    have s0 : Same H (upd H l (.lst [.bl (decide (j = 0)), .bl (decide (j = 1)), .bl (decide (j = 2)), .bl (decide (j = 3))])) := same_upd nl
    refine ⟨_, rfl, .inl ⟨rfl, _, .inl (.inl e0)⟩, _, rfl, _, _, _, rfl, rr, J.k4, _, rfl, _, _, _, rfl, rr, J.k5, _, rfl, _, _, _, rfl, rr, J.k6, (by show 3 ≤ sizeLine; decide), fun b1 n1 => ?_⟩
    dsimp only [tNil]
    refine ext_step s0 nl e0 n1 ?_ fun H1 s1 e1 => ?_
    · show 4 + 3 ≤ sizeLine
      decide
    refine ⟨_, rfl, .inl ⟨rfl, _, .inl (.inl e1)⟩, _, rfl, _, _, _, rfl, rr, J.k7, (by show 1 ≤ sizeLine; decide), fun b2 n2 => ?_⟩
    dsimp only [tNil]
    refine ext_step s1 nl e1 n2 ?_ fun H2 s2 e2 => ?_
    · show 7 + 1 ≤ sizeLine
      decide
    refine ⟨_, rfl, .inl ⟨rfl, _, .inl (.inl e2)⟩, _, rfl, _, _, _, rfl, rr, J.k8, _, rfl, _, _, _, rfl, rr, J.k9, _, rfl, _, _, _, rfl, rr, J.k10, (by show 3 ≤ sizeLine; decide), fun b3 n3 => ?_⟩
    dsimp only [tNil]
    refine ext_step s2 nl e2 n3 ?_ fun H3 s3 e3 => ?_
    · show 8 + 3 ≤ sizeLine
      decide
    refine ⟨_, rfl, .inl ⟨rfl, _, .inl (.inl e3)⟩, _, rfl, _, _, _, rfl, rr, J.k11, (by show 1 ≤ sizeLine; decide), fun b4 n4 => ?_⟩
    dsimp only [tNil]
    refine ext_step s3 nl e3 n4 ?_ fun H4 s4 e4 => ?_
    · show 11 + 1 ≤ sizeLine
      decide
    refine ⟨_, rfl, .inl ⟨rfl, _, .inl (.inl e4)⟩, _, rfl, _, _, _, rfl, rr, J.k12, _, rfl, _, _, _, rfl, rr, J.k13, (by show 2 ≤ sizeLine; decide), fun b5 n5 => ?_⟩
    dsimp only [tNil]
    refine ext_step s4 nl e4 n5 ?_ fun H5 s5 e5 => ?_
    · show 12 + 2 ≤ sizeLine
      decide
    have e6 : H5 l = some (.lst (own j)) := e5
    have hL : SqL K H5 l (own j) := .inl (.inl e6)
    refine ⟨_, rfl, .inl ⟨rfl, _, hL⟩, l, _, _, rfl, rfl, hL, rfl, own_flat j, rfl, ?_⟩
    have hc1 := own_count ⟨j, J.lt⟩
    rw [hc1]
    refine ⟨_, rfl, ?_⟩
    refine iteF ?_
    refine ⟨_, rfl, _, _, _, rfl, (fun _ r => r), J.kv, _, rfl, ?_⟩
    refine iteF ?_
    refine ⟨_, rfl, .inl ⟨rfl, _, hL⟩, l, _, _, j, .bl true, rfl, rfl, hL, rfl, own_flat j, own_at ⟨j, J.lt⟩, rfl, fun m z hm hz => ?_, (by show 2 ≤ sizeLine; decide), fun t nt => ?_⟩
    · have := own_ahead ⟨j, J.lt⟩ ⟨m, Nat.lt_trans hm J.lt⟩ hm
      rw [this] at hz
      cases hz
      rfl
    · exact q _ t (s5.trans (same_upd nt)) (s5.free nt) upd_same
end
end K19

set_option maxHeartbeats 4000000
namespace K19
open PySem PySem.Spec PyProof.Rows L2 Kin
def rJoinK (K : PySem.W.Frag) : V → List V → Hp → VK → Prop := fun x xs H Q => ∃ a p, ∃ ys : List Str, x = .str a ∧ xs = [.ref p] ∧ (SqL K H p (ys.map V.str) ∨ SqT K H p (ys.map V.str)) ∧ (ys.map (·.length)).sum + ys.length * a.length ≤ 16777216 ∧ Q (.str (Txt.join a ys)) H
/-- a list of lists of texts -/
structure LinesAt (H : Hp) (l : Addr) (ls : List (List Str)) : Prop where
  ex : ∃ ts : List Addr, H l = some (.lst (ts.map V.ref)) ∧ ts.length = ls.length ∧ ∀ (i : Nat) (t : Addr) (ws : List Str), ts[i]? = some t → ls[i]? = some ws → H t = some (.lst (ws.map V.str))
theorem LinesAt.mono {H H' : Hp} {l : Addr} {ls : List (List Str)} (h : LinesAt H l ls) (s : Same H H') : LinesAt H' l ls := by
  obtain ⟨ts, e, n, r⟩ := h.ex
  exact ⟨ts, s _ _ e, n, fun i t ws h1 h2 => s _ _ (r i t ws h1 h2)⟩
structure SmallL (ls : List (List Str)) : Prop where
  n : ls.length ≤ 100
  w : ∀ ws ∈ ls, ws.length ≤ 100 ∧ ∀ w ∈ ws, w.length ≤ 1000
theorem sum_le {l : List Nat} {k : Nat} (h : ∀ x ∈ l, x ≤ k) : l.sum ≤ l.length * k := by
  induction l with
  | nil => exact Nat.zero_le _
  | cons a l ih =>
    rw [List.sum_cons, List.length_cons, Nat.add_mul, Nat.one_mul, Nat.add_comm]
    exact Nat.add_le_add (ih fun x hx => h x (List.mem_cons_of_mem _ hx)) (h a List.mem_cons_self)
theorem words_le {ws : List Str} (n : ws.length ≤ 100) (h : ∀ w ∈ ws, w.length ≤ 1000) : (ws.map (·.length)).sum + ws.length * (" " : Str).length ≤ 100100 ∧ (Txt.join " " ws).length ≤ 100100 := by
  have h1 : (ws.map (·.length)).sum ≤ (ws.map (·.length)).length * 1000 := sum_le (fun x hx => by obtain ⟨w, hw, rfl⟩ := List.mem_map.mp hx; exact h w hw)
  have e : (" " : Str).length = 1 := by decide +kernel
  have h2 := StrLaws.join_length_le " " ws
  rw [List.length_map] at h1
  have h3 : (Txt.join " " ws).length = (Str.join " " ws).length := congrArg Str.length (TL.join_eq " " ws)
  rw [e] at h2 ⊢
  omega
section
variable {P : Program} {w : World} {K : PySem.W.Frag} {mg : Str → Option Value} {base : Heap}
def sp_lines_text : Sp := fun vs H Q _ => ∃ (l : Addr) (ls : List (List Str)), vs = [.ref l] ∧ LinesAt H l ls ∧ SmallL ls ∧ ∀ H', Same H H' → Q (.str (linesTxt ls)) H'
theorem ok_lines_text (T : Txt K mg) : FnOk P w K mg base CX0 1 T.a_lines_text T.f_lines_text ["lines"] sp_lines_text := by
  refine T.d_lines_text.F.ok sc_lines_text (fun vs H Q E h => ?_) (fun cdv A outer s H vs Q E hr h => ?_)
  · obtain ⟨l, ls, rfl, _⟩ := h
    rfl
  · obtain ⟨l, ls, rfl, at_, sm, q⟩ := h
    refine ⟨_, (pss_one (ps_ret (pe_m1 (r := rJoinK K) PySem.F.slot_str_join PySem.F.type_str_join mt_join pe_str (pe_lc (own := [("words", 1)]) (g := gName 1) (tt := tYes) rfl sc_lines_text.nd (pi_list (pv 0)) (blkOk_by (N := N_lines_text) (sc := defScope s_lines_text) (by decide +kernel)) (fun _ _ _ _ _ => pg_name (i := 1) sc_lines_text.nd rfl (Or.inl rfl)) (fun _ _ _ _ _ => pts_nil) (fun _ _ _ _ _ => (pe_op op_add_str (pe_m1 (r := rJoinK K) PySem.F.slot_str_join PySem.F.type_str_join mt_join pe_str (pv 1)) pe_str)))))), ?_⟩
    obtain ⟨ts, el, hl, hrow⟩ := at_.ex
    have S0 : ∀ H', Same H H' → SqL K H' l (ts.map V.ref) := fun H' s => .inl (.inl (s _ _ el))
    refine ⟨⟨_, rfl⟩, _, rfl, l, rfl, ⟨_, S0 _ (Same.refl _)⟩, fun D nD => ?_⟩
    refine lc_strs (walk_list (K := K) (a := l) (xs := ts.map V.ref)) (ls.map fun ws => Txt.join " " ws ++ "\n") (by rw [List.length_map, List.length_map, hl]) (by rw [List.length_map, hl]; have := sm.n; omega) nD (fun H' s => S0 H' s) ?_ ?_
    · rintro i v H1 H2 hi s1 ⟨rfl, ev⟩ Q' hq
      rw [List.getElem?_map] at ev
      cases et : ts[i]? with
      | none => rw [et] at ev; cases ev
      | some t =>
        rw [et] at ev
        cases ev
        have hi' : i < ls.length := by
          rw [← hl]
          exact (List.getElem?_eq_some_iff.mp et).1
        have ew : ls[i]? = some (ls[i]) := List.getElem?_eq_getElem hi'
        have ht := hrow i t _ et ew
        obtain ⟨w1, w2⟩ := sm.w _ (List.getElem_mem hi')
        obtain ⟨b1, b2⟩ := words_le w1 w2
        refine ⟨rfl, ?_⟩
        refine ⟨⟨_, rfl⟩, _, rfl, " ", t, _, rfl, rfl, .inl (.inl (.inl (s1 _ _ ht))), by omega, ?_⟩
        refine ⟨_, _, rfl, rfl, ?_, ?_⟩
        · have : ("\n" : Str).length = 1 := by decide +kernel
          rw [this, sizeLine_eq]
          omega
        · exact hq _ _ (Same.refl _) (by rw [List.getElem?_map, ew]; rfl)
    · intro H1 s1 eD
      refine ⟨_, D, _, rfl, rfl, .inl (.inl (.inl eD)), ?_, q _ s1⟩
      have h0 : ("" : Str).length = 0 := by decide +kernel
      rw [h0, Nat.mul_zero, Nat.add_zero]
      refine Nat.le_trans (sum_le (k := 100101) fun x hx => ?_) ?_
      · obtain ⟨y, hy, rfl⟩ := List.mem_map.mp hx
        obtain ⟨ws, hw, rfl⟩ := List.mem_map.mp hy
        obtain ⟨w1, w2⟩ := sm.w _ hw
        obtain ⟨b1, b2⟩ := words_le w1 w2
        have : (Txt.join " " ws ++ "\n").length = (Txt.join " " ws).length + ("\n" : Str).length := by
          show ((Txt.join " " ws).cps ++ ("\n" : Str).cps).size = _
          rw [Array.size_append]
          rfl
        have e1 : ("\n" : Str).length = 1 := by decide +kernel
        show (Txt.join " " ws ++ "\n").length ≤ _
        omega
      · rw [List.length_map, List.length_map]
        have := sm.n
        omega
end
end K19

set_option maxHeartbeats 4000000
namespace K19
open PySem PySem.Spec PyProof.Rows L2 Kin
theorem num_len : ∀ i : _root_.Fin 8, (Str.ofString (toString (i.val : Int))).length = 1 ∧ (i.val : Int).natAbs.log2 < 1920 := by decide +kernel
theorem num_inv {m : Nat} (hm : m ≤ 8) {d : PyData} (h : numD (m : Int) d = true) : ∃ k : _root_.Fin 8, d = .int (k.val : Int) := by
  cases d with
  | int i =>
    have h' : (decide (0 ≤ i) && decide (i < (m : Int))) = true := h
    rw [Bool.and_eq_true, decide_eq_true_eq, decide_eq_true_eq] at h'
    refine ⟨⟨i.toNat, by omega⟩, ?_⟩
    show PyData.int i = .int ((i.toNat : Nat) : Int)
    rw [Int.toNat_of_nonneg h'.1]
  | _ => exact Bool.noConfusion h
theorem stand_inv {m : Nat} (hm : m ≤ 8) {d : PyData} (h : standD (m : Int) d = true) : ∃ w ns, d = .tuple (.str w :: ns) ∧ w.length ≤ 8 ∧ ns.length = 4 ∧ ∀ e ∈ ns, ∃ k : _root_.Fin 8, e = .int (k.val : Int) := by
  match d, h with
  | .tuple (w :: ns), h =>
    have h' : (decide (ns.length = 4) && letD 8 w && ns.all (numD (m : Int))) = true := h
    rw [Bool.and_eq_true, Bool.and_eq_true, decide_eq_true_eq] at h'
    obtain ⟨⟨h1, h2⟩, h3⟩ := h'
    cases w with
    | str z =>
      have h2' : (decide (z.length ≤ 8) && z.cps.toList.all letC) = true := h2
      rw [Bool.and_eq_true, decide_eq_true_eq] at h2'
      exact ⟨z, ns, rfl, h2'.1, h1, fun e he => num_inv hm (List.all_eq_true.mp h3 e he)⟩
    | _ => exact Bool.noConfusion h2
theorem speech_inv {d : PyData} (h : speechD d = true) : ∃ (a b : _root_.Fin 8) (ss : List PyData), d = .tuple [.int (a.val : Int), .int (b.val : Int), .tuple ss] ∧ 1 ≤ ss.length ∧ ss.length ≤ 8 ∧ ∀ s ∈ ss, standD (ss.length : Int) s = true := by
  match d, h with
  | .tuple [he, she, .tuple ss], h =>
    have h' : (decide (1 ≤ ss.length) && decide (ss.length ≤ 8) && numD (ss.length : Int) he && numD (ss.length : Int) she && ss.all (standD (ss.length : Int))) = true := h
    simp only [Bool.and_eq_true, decide_eq_true_eq] at h'
    obtain ⟨⟨⟨⟨h1, h2⟩, h3⟩, h4⟩, h5⟩ := h'
    obtain ⟨a, rfl⟩ := num_inv h2 h3
    obtain ⟨b, rfl⟩ := num_inv h2 h4
    exact ⟨a, b, ss, rfl, h1, h2, fun s hs => List.all_eq_true.mp h5 s hs⟩
theorem word_tru (z : Str) (h : z.length ≤ 1000) (K : PySem.W.Frag) (H : Hp) : TruV K (.str z) H (decide (z ≠ "")) := by
  refine ⟨by rw [sizeLine_eq]; omega, ?_⟩
  by_cases e : z = ""
  · subst e
    decide +kernel
  · rw [decide_eq_true e]
    have : z.length ≠ 0 := fun z0 => e (by
      have h0 : z.cps = #[] := Array.eq_empty_of_size_eq_zero z0
      have : z = ⟨z.cps⟩ := rfl
      rw [this, h0]
      rfl)
    symm
    rw [bne_iff_ne]
    omega
theorem or_dash {wd : Str} {Q : VK} {H : Hp} {σ : L2.St} (q : Q (.str (wordW wd)) H) : if decide (wd ≠ "") = true then Q (.str wd) H else tC (.str "-") σ H Q := by
  unfold wordW at q
  by_cases e : wd = ""
  · rw [if_pos e] at q
    rw [if_neg (by rw [decide_eq_false (fun z => z e)]; exact Bool.false_ne_true)]
    exact q
  · rw [if_neg e] at q
    rw [if_pos (decide_eq_true e)]
    exact q
section
variable {P : Program} {w : World} {K : PySem.W.Frag} {mg : Str → Option Value} {base : Heap}
def sp_written (g : PyData → Bool) (f : PyData → Str) : Sp := fun vs H Q _ => ∃ (x : V) (d : PyData), vs = [x] ∧ Td true H x d ∧ g d = true ∧ ∀ H', Same H H' → Q (.str (f d)) H'
theorem ok_written_speech (T : Txt K mg) : FnOk P w K mg base CX0 2 T.a_written_speech T.f_written_speech ["speech"] (sp_written speechD speechW) := by
  have G_lines_text : FnOk P w K mg base CX0 1 T.a_lines_text T.f_lines_text ["lines"] sp_lines_text := ok_lines_text T
  refine T.d_written_speech.F.ok sc_written_speech (fun vs H Q E h => ?_) (fun cdv A outer s H vs Q E hr h => ?_)
  · obtain ⟨x, d, rfl, _⟩ := h
    rfl
  · obtain ⟨x, d, rfl, td, hd, q⟩ := h
    refine ⟨_, (pss_cons (ps_asg (pv 0) (pg_tup rfl (pgs_cons (pg_name (i := 2) sc_written_speech.nd rfl (Or.inl rfl)) (pgs_cons (pg_name (i := 3) sc_written_speech.nd rfl (Or.inl rfl)) (pgs_cons (pg_name (i := 4) sc_written_speech.nd rfl (Or.inl rfl)) pgs_nil)))))
      (pss_cons (ps_set (i := 1) sc_written_speech.nd rfl (Or.inl rfl) (pe_lst (pa_cons (pe_lst (pa_cons pe_str (pa_cons (pe_callTy call_str_int (by rfl) T.n_str b_str (pa_cons (pv 2) pa_nil)) (pa_cons pe_str (pa_cons (pe_callTy call_str_int (by rfl) T.n_str b_str (pa_cons (pv 3) pa_nil)) pa_nil))))) pa_nil)))
      (pss_cons (ps_for PassesOwn.never rfl (pi_tup (pv 4)) (pg_star rfl (pg_name (i := 5) sc_written_speech.nd rfl (Or.inl rfl)) (pg_name (i := 6) sc_written_speech.nd rfl (Or.inl rfl)))
        (pss_one (ps_expr (pe_bm PySem.F.plainAttrs_list PySem.F.slot_list_append PySem.F.type_list_append mt_append (pv 1) (pa_cons (pe_op op_cat (pe_lst (pa_cons (pe_orT (pv 5) (pe_one pe_str)) pa_nil)) (pe_lc (own := [("number", 7)]) (g := gName 7) (tt := tYes) rfl sc_written_speech.nd (pi_list (pv 6)) (blkOk_by (N := N_written_speech) (sc := defScope s_written_speech) (by decide +kernel)) (fun _ _ _ _ _ => pg_name (i := 7) sc_written_speech.nd rfl (Or.inl rfl)) (fun _ _ _ _ _ => pts_nil) (fun _ _ _ _ _ => (pe_callTy call_str_int (by rfl) T.n_str b_str (pa_cons (pv 7) pa_nil))))) pa_nil)))))
      (pss_one (ps_ret (pe_call G_lines_text (hr.mono (by decide)) rfl T.d_lines_text.g T.d_lines_text.F.kp T.d_lines_text.b .nil pass0 (pa_cons (pv 1) pa_nil))))))), ?_⟩
    obtain ⟨ka, kb, ss, rfl, n1, n8, hss⟩ := speech_inv hd
    cases td with
    | @tup a xs _ e nx r =>
      match xs, r with
      | [_, _, _], .cons (.int _) (.cons (.int _) (.cons (@Td.tup _ _ a3 xs3 _ e3 nx3 r3) .nil)) =>
        have hl3 := r3.length
        refine ⟨_, rfl, a, _, rfl, .inl (.inl e), rfl, _, _, rfl, _, _, rfl, _, _, rfl, rfl, ?_⟩
        refine ⟨_, rfl, _, rfl, (num_len ka).2, ?_⟩
        refine ⟨_, rfl, _, rfl, (num_len kb).2, ?_⟩
        refine ⟨by show 4 ≤ sizeLine; decide, fun t1 nt1 => ?_⟩
        refine ⟨by show 1 ≤ sizeLine; decide, fun D nD => ?_⟩
        have s1 : Same H (upd H t1 (.lst [.str "he", .str (Str.ofString (toString (ka.val : Int))), .str "she", .str (Str.ofString (toString (kb.val : Int)))])) := same_upd nt1
        have e1 : (upd H t1 (.lst [.str "he", .str (Str.ofString (toString (ka.val : Int))), .str "she", .str (Str.ofString (toString (kb.val : Int)))])) t1 = some (.lst (([Str.ofString "he", Str.ofString (toString (ka.val : Int)), Str.ofString "she", Str.ofString (toString (kb.val : Int))] : List Str).map V.str)) := upd_same
        generalize upd H t1 (.lst [.str "he", .str (Str.ofString (toString (ka.val : Int))), .str "she", .str (Str.ofString (toString (kb.val : Int)))]) = H1 at s1 e1 nD ⊢
        have s2 := s1.trans (same_upd (o := .lst [V.ref t1]) nD)
        have eD : upd H1 D (.lst [.ref t1]) D = some (.lst ([t1].map V.ref)) := upd_same
        have e2 := same_upd (o := .lst [V.ref t1]) nD _ _ e1
        have n1D : t1 ≠ D := ne_of_none e1 nD
        have nDH : H D = none := s1.free nD
        generalize upd H1 D (.lst [.ref t1]) = H2 at s2 eD e2 ⊢
        have hT : ∀ H', Same H H' → SqT K H' a3 xs3 := fun H' s => .inl (.inl (s _ _ e3))
        refine ⟨_, rfl, a3, rfl, ⟨_, hT _ s2⟩, ?_⟩
        refine for_it (walk_tup (K := K) (a := a3) (xs := xs3)) (fun i σ H' => Same H H' ∧ ∃ (ts : List Addr) (x5 x6 : Option V), H' D = some (.lst (ts.map V.ref)) ∧ ts.length = i + 1 ∧
          (∀ (j : Nat) (t : Addr) (ws : List Str), ts[j]? = some t → ((([Str.ofString "he", numW (.int (ka.val : Int)), Str.ofString "she", numW (.int (kb.val : Int))] : List Str) :: ss.map standW) : List (List Str))[j]? = some ws → t ≠ D ∧ H' t = some (.lst (ws.map V.str))) ∧
          σ = [some (.ref a), some (.ref D), some (.int (ka.val : Int)), some (.int (kb.val : Int)), some (.ref a3), x5, x6, none]) ?_ (fun i σ H' _ p => hT _ p.1) ?_ ?_
        · refine ⟨s2, [t1], _, _, eD, rfl, fun j t ws h1 h2 => ?_, rfl⟩
          cases j with
          | zero =>
            cases h1
            cases h2
            exact ⟨n1D, e2⟩
          | succ j => cases h1
        · rintro i v σ H3 H3' hi ⟨s3, ts, x5, x6, e4, hts, hrow, rfl⟩ ⟨rfl, ev⟩
          obtain ⟨d, ed, tdv⟩ := r3.get ev
          obtain ⟨wd, nds, rfl, hw, hn4, hnd⟩ := stand_inv n8 (hss _ (List.mem_of_getElem? ed))
          have tdv := tdv.mono s3
          cases tdv with
          | @tup av xsv _ ev2 nv rv =>
            cases rv with
            | @cons wv nsv _ _ tw tr =>
              cases tw with
              | str hwl =>
                refine ⟨av, .str wd, nsv, rfl, .inl (.inl ev2), fun l nl => ?_⟩
                have lD : D ≠ l := ne_of_none e4 nl
                have s4 : Same H3' (upd H3' l (.lst nsv)) := same_upd nl
                have el : upd H3' l (.lst nsv) l = some (.lst nsv) := upd_same
                generalize upd H3' l (.lst nsv) = H4 at s4 el ⊢
                have e5 := s4 _ _ e4
                refine ⟨_, rfl, .inl ⟨rfl, _, .inl (.inl e5)⟩, ?_⟩
                refine ⟨_, rfl, decide (wd ≠ ""), word_tru wd hwl K H4, or_dash ?_⟩
                refine ⟨by show 1 ≤ sizeLine; decide, fun l2 nl2 => ?_⟩
                have s5 : Same H4 (upd H4 l2 (.lst [.str (wordW wd)])) := same_upd nl2
                have el2 : upd H4 l2 (.lst [.str (wordW wd)]) l2 = some (.lst [.str (wordW wd)]) := upd_same
                have l2D : D ≠ l2 := ne_of_none e5 nl2
                generalize upd H4 l2 (.lst [.str (wordW wd)]) = H5 at s5 el2 ⊢
                have hL : ∀ H', Same H5 H' → SqL K H' l nsv := fun H' s => .inl (.inl (s _ _ (s5 _ _ el)))
                have hnsv := tr.length
                refine ⟨_, rfl, l, rfl, ⟨_, hL _ (Same.refl _)⟩, fun C nC => ?_⟩
                refine lc_strs (walk_list (K := K) (a := l) (xs := nsv)) (nds.map numW) (by rw [List.length_map, hnsv]) (by rw [hnsv, hn4]; decide) nC (fun H' s => hL H' s) ?_ ?_
                · rintro k u H6 H6' hk s6 ⟨rfl, eu⟩ Q' hq
                  obtain ⟨dn, edn, tdn⟩ := tr.get eu
                  obtain ⟨kk, rfl⟩ := hnd dn (List.mem_of_getElem? edn)
                  cases tdn
                  refine ⟨rfl, _, rfl, _, rfl, (num_len kk).2, hq _ _ (Same.refl _) ?_⟩
                  rw [List.getElem?_map, edn]
                  rfl
                · intro H6 s6 eC
                  have e6D := s6 _ _ (s5 _ _ e5)
                  refine ⟨l2, C, _, _, rfl, rfl, s6 _ _ el2, eC, by rw [List.length_map, List.length_map, hn4]; show 1 + 4 ≤ sizeLine; decide, fun p np => ?_⟩
                  have s36 : Same H3' H6 := s4.trans (s5.trans s6)
                  have pD : p ≠ D := fun z => by rw [z, e6D] at np; cases np
                  have e7 : upd H6 p (.lst ([V.str (wordW wd)] ++ (nds.map numW).map V.str)) D = some (.lst (ts.map V.ref)) := same_upd np _ _ e6D
                  have e8 : upd H6 p (.lst ([V.str (wordW wd)] ++ (nds.map numW).map V.str)) p = some (.lst ((standW (.tuple (.str wd :: nds))).map V.str)) := upd_same
                  have s37 : Same H3' (upd H6 p (.lst ([V.str (wordW wd)] ++ (nds.map numW).map V.str))) := s36.trans (same_upd np)
                  generalize upd H6 p (.lst ([V.str (wordW wd)] ++ (nds.map numW).map V.str)) = H7 at e7 e8 s37 ⊢
                  refine ⟨D, _, _, rfl, rfl, e7, by rw [List.length_map, hts, sizeLine_eq]; omega, ?_⟩
                  refine ⟨same_set (s3.trans s37) nDH, ts ++ [p], _, _, by rw [upd_same, List.map_append]; rfl, by rw [List.length_append, hts]; rfl, fun j t ws h1 h2 => ?_, rfl⟩
                  by_cases hj : j < ts.length
                  · rw [List.getElem?_append_left hj] at h1
                    obtain ⟨tD, ht⟩ := hrow j t ws h1 h2
                    exact ⟨tD, by rw [upd_ne tD]; exact s37 _ _ ht⟩
                  · have hj' : j = ts.length := by
                      have := (List.getElem?_eq_some_iff.mp h1).1
                      rw [List.length_append] at this
                      simp at this
                      omega
                    rw [List.getElem?_append_right (by omega)] at h1
                    subst hj'
                    simp at h1
                    subst h1
                    refine ⟨pD, ?_⟩
                    rw [upd_ne pD, e8]
                    rw [hts, List.getElem?_cons_succ, List.getElem?_map, ed] at h2
                    cases h2
                    rfl
        · rintro σ H3 ⟨s3, ts, x5, x6, e4, hts, hrow, rfl⟩
          refine ⟨_, rfl, D, _, rfl, ⟨ts, e4, by rw [hts, List.length_cons, List.length_map, hl3], fun i t ws h1 h2 => (hrow i t ws h1 h2).2⟩, ⟨by rw [List.length_cons, List.length_map]; omega, fun ws hws => ?_⟩, fun H4 s4 => q H4 (s3.trans s4)⟩
          rcases List.mem_cons.mp hws with rfl | hws
          · refine ⟨by show 4 ≤ 100; decide, fun z hz => ?_⟩
            have la := (num_len ka).1
            have lb := (num_len kb).1
            simp only [List.mem_cons, List.not_mem_nil, or_false] at hz
            rcases hz with rfl | rfl | rfl | rfl
            · decide +kernel
            · show (Str.ofString (toString (ka.val : Int))).length ≤ 1000
              omega
            · decide +kernel
            · show (Str.ofString (toString (kb.val : Int))).length ≤ 1000
              omega
          · obtain ⟨sd, hsd, rfl⟩ := List.mem_map.mp hws
            obtain ⟨wd, nds, rfl, hw, hn4, hnd⟩ := stand_inv n8 (hss _ hsd)
            refine ⟨by show (wordW wd :: nds.map numW).length ≤ 100; rw [List.length_cons, List.length_map, hn4]; decide, fun z hz => ?_⟩
            rcases List.mem_cons.mp hz with rfl | hz
            · unfold wordW
              split
              · decide +kernel
              · omega
            · obtain ⟨e, he, rfl⟩ := List.mem_map.mp hz
              obtain ⟨k, rfl⟩ := hnd e he
              have := (num_len k).1
              show (Str.ofString (toString (k.val : Int))).length ≤ 1000
              omega
end
end K19

set_option maxHeartbeats 4000000
namespace K19
open PySem PySem.Spec PyProof.Rows L2 Kin
theorem famGo_all : ∀ (E : List (Str × Str)) (ps : List PyData), famGo E ps = true → ∀ p ∈ ps, persD p = true
  | _, [], _, p, hp => by cases hp
  | E, d :: r, h, p, hp => by
    cases e : persD d with
    | false => rw [famGo_no e] at h; cases h
    | true =>
      obtain ⟨zn, zs, f, m, rfl, _, _⟩ := persD_is e
      rw [famGo_yes e] at h
      rcases List.mem_cons.mp hp with rfl | hp
      · exact e
      · simp only [Bool.and_eq_true] at h
        exact famGo_all _ r h.2 p hp
theorem fam_inv {d : PyData} (h : famD d = true) : ∃ ps, d = .tuple ps ∧ 1 ≤ ps.length ∧ ps.length ≤ 40 ∧ ∀ p ∈ ps, persD p = true := by
  cases d with
  | tuple ps =>
    have h' : (decide (1 ≤ ps.length) && decide (ps.length ≤ 40) && famGo [] ps) = true := h
    simp only [Bool.and_eq_true, decide_eq_true_eq] at h'
    exact ⟨ps, rfl, h'.1.1, h'.1.2, famGo_all [] ps h'.2⟩
  | _ => exact Bool.noConfusion h
/-- a name or a sex or none, in a person -/
def partOk : PyData → Bool
  | .str z => decide (z.length ≤ 6)
  | .none => true
  | _ => false
theorem name_len {z : Str} (h : nameD (.str z) = true) : z.length ≤ 6 := by
  have h' : ((decide (z.length ≤ 6) && z.cps.toList.all letC) && !decide (z = "")) = true := h
  simp only [Bool.and_eq_true, decide_eq_true_eq] at h'
  exact h'.1.1
theorem sex_len {z : Str} (h : sexD (.str z) = true) : z.length ≤ 6 := by
  have h' : (decide (z = "he") || decide (z = "she")) = true := h
  rw [Bool.or_eq_true, decide_eq_true_eq, decide_eq_true_eq] at h'
  rcases h' with rfl | rfl <;> decide +kernel
theorem pers_parts {d : PyData} (h : persD d = true) : ∃ ds, d = .tuple ds ∧ ds.length = 4 ∧ ∀ e ∈ ds, partOk e = true := by
  obtain ⟨zn, zs, f, m, rfl, hf, hm⟩ := persD_is h
  have h' : (nameD (.str zn) && sexD (.str zs) && parD f && parD m) = true := h
  simp only [Bool.and_eq_true] at h'
  obtain ⟨⟨⟨h1, h2⟩, h3⟩, h4⟩ := h'
  have par : ∀ e, parD e = true → (e = .none ∨ ∃ z, e = .str z) → partOk e = true := by
    rintro e he (rfl | ⟨z, rfl⟩)
    · rfl
    · exact decide_eq_true (name_len he)
  refine ⟨_, rfl, rfl, fun e he => ?_⟩
  simp only [List.mem_cons, List.not_mem_nil, or_false] at he
  rcases he with rfl | rfl | rfl | rfl
  · exact decide_eq_true (name_len h1)
  · exact decide_eq_true (sex_len h2)
  · exact par _ h3 hf
  · exact par _ h4 hm
section
variable {P : Program} {w : World} {K : PySem.W.Frag} {mg : Str → Option Value} {base : Heap}
theorem ok_written_family (T : Txt K mg) : FnOk P w K mg base CX0 2 T.a_written_family T.f_written_family ["family"] (sp_written famD familyW) := by
  have G_lines_text : FnOk P w K mg base CX0 1 T.a_lines_text T.f_lines_text ["lines"] sp_lines_text := ok_lines_text T
  refine T.d_written_family.F.ok sc_written_family (fun vs H Q E h => ?_) (fun cdv A outer s H vs Q E hr h => ?_)
  · obtain ⟨x, d, rfl, _⟩ := h
    rfl
  · obtain ⟨x, d, rfl, td, hd, q⟩ := h
    refine ⟨_, (pss_one (ps_ret (pe_call G_lines_text (hr.mono (by decide)) rfl T.d_lines_text.g T.d_lines_text.F.kp T.d_lines_text.b .nil pass0 (pa_cons (pe_lc (te := tLc (iTup K (tVar 1)) (gName 2) tYes (tOrT K (tVar 2) (tC (.str "-"))) [2]) (own := [("person", 1)]) (g := gName 1) (tt := tYes) rfl sc_written_family.nd (pi_tup (pv 0)) (blkOk_by (N := N_written_family) (sc := defScope s_written_family) (by decide +kernel)) (fun _ _ _ _ _ => pg_name (i := 1) sc_written_family.nd rfl (Or.inl rfl)) (fun _ _ _ _ _ => pts_nil) (fun _ _ _ _ _ => by exact (pe_lc (own := [("told", 2)]) (g := gName 2) (tt := tYes) rfl sc_written_family.nd (pi_tup (pv 1)) (blkOk_by (N := N_written_family) (sc := { kind := .function, names := [(".0", .local), ("person", .local)], isGenerator := false, isCoroutine := false }) (by decide +kernel)) (fun _ _ _ _ _ => pg_name (i := 2) sc_written_family.nd rfl (Or.inl rfl)) (fun _ _ _ _ _ => pts_nil) (fun _ _ _ _ _ => (pe_orT (pv 2) (pe_one pe_str)))))) pa_nil)))), ?_⟩
    obtain ⟨ps, rfl, n1, n40, hps⟩ := fam_inv hd
    cases td with
    | @tup a xs _ e nx r =>
      have hl := r.length
      have hT : ∀ H', Same H H' → SqT K H' a xs := fun H' s => .inl (.inl (s _ _ e))
      refine ⟨_, rfl, a, rfl, ⟨_, hT _ (Same.refl _)⟩, fun D nD => ?_⟩
      refine lc_gen (walk_tup (K := K) (a := a) (xs := xs)) (PY := fun i y H' => ∃ t ws, (ps.map persW)[i]? = some ws ∧ y = .ref t ∧ H' t = some (.lst (ws.map V.str))) (by omega) (fun i y H1 H2 ⟨t, ws, e1, e2, e3⟩ s => ⟨t, ws, e1, e2, s _ _ e3⟩) nD (fun H' s => hT H' s) ?_ ?_
      · rintro i v H1 H1' hi s1 ⟨acc, eD⟩ ⟨rfl, ev⟩ Q' hq
        obtain ⟨d, ed, tdv⟩ := r.get ev
        obtain ⟨ds, rfl, n4, hparts⟩ := pers_parts (hps d (List.mem_of_getElem? ed))
        have tdv := tdv.mono s1
        cases tdv with
        | @tup b ys _ eb nb rb =>
          have hlb := rb.length
          have hB : ∀ H', Same H1' H' → SqT K H' b ys := fun H' s => .inl (.inl (s _ _ eb))
          refine ⟨rfl, ?_⟩
          refine ⟨_, rfl, b, rfl, ⟨_, hB _ (Same.refl _)⟩, fun C nC => ?_⟩
          refine lc_strs (walk_tup (K := K) (a := b) (xs := ys)) (ds.map partW) (by rw [List.length_map, hlb]) (by omega) nC (fun H' s => hB H' s) ?_ ?_
          · rintro k u H2 H2' hk s2 ⟨rfl, eu⟩ Q2 hq2
            obtain ⟨dn, edn, tdn⟩ := rb.get eu
            have hp := hparts dn (List.mem_of_getElem? edn)
            have fin : ∀ z, partW dn = z → Q2 (.str z) H2' := fun z ez => hq2 _ _ (Same.refl _) (by rw [List.getElem?_map, edn, ← ez]; rfl)
            refine ⟨rfl, _, rfl, ?_⟩
            cases tdn with
            | non => exact ⟨false, rfl, fin _ rfl⟩
            | @str z hz => exact ⟨decide (z ≠ ""), word_tru z hz K H2', or_dash (σ := []) (fin _ rfl)⟩
            | _ => cases hp
          · intro H2 s2 eC
            have CD : C ≠ D := ne_of_none eD nC |>.symm
            refine hq _ _ s2 ⟨C, ds.map partW, ?_, rfl, hide_at CD eC⟩
            rw [List.getElem?_map, ed]
            rfl
      · intro H1 ys s1 eD hys hrow
        have hy : ∀ (y : V), y ∈ ys → ∃ t, y = .ref t := fun y hy => by
          obtain ⟨i, hi⟩ := List.getElem?_of_mem hy
          obtain ⟨t, ws, _, e2, _⟩ := hrow i y hi
          exact ⟨t, e2⟩
        obtain ⟨ts, hts⟩ : ∃ ts : List Addr, ys = ts.map V.ref := by
          clear hrow hys eD
          induction ys with
          | nil => exact ⟨[], rfl⟩
          | cons y ys ih =>
            obtain ⟨t, rfl⟩ := hy y List.mem_cons_self
            obtain ⟨ts, rfl⟩ := ih fun z hz => hy z (List.mem_cons_of_mem _ hz)
            exact ⟨t :: ts, rfl⟩
        subst hts
        rw [List.length_map] at hys
        refine ⟨D, ps.map persW, rfl, ⟨ts, eD, by rw [List.length_map, hys, hl], fun i t ws h1 h2 => ?_⟩, ⟨by rw [List.length_map]; omega, fun ws hws => ?_⟩, fun H2 s2 => q H2 (s1.trans s2)⟩
        · obtain ⟨t', ws', e1, e2, e3⟩ := hrow i (.ref t) (by rw [List.getElem?_map, h1]; rfl)
          rw [h2] at e1
          cases e1
          cases e2
          unfold hide at e3
          split at e3
          · cases e3
          · exact e3
        · obtain ⟨sd, hsd, rfl⟩ := List.mem_map.mp hws
          obtain ⟨ds, rfl, n4, hparts⟩ := pers_parts (hps sd hsd)
          refine ⟨by show (ds.map partW).length ≤ 100; rw [List.length_map, n4]; decide, fun z hz => ?_⟩
          obtain ⟨e, he, rfl⟩ := List.mem_map.mp hz
          have hp := hparts e he
          cases e with
          | none => decide +kernel
          | str z =>
            have hz : z.length ≤ 6 := of_decide_eq_true hp
            show (wordW z).length ≤ 1000
            unfold wordW
            split
            · decide +kernel
            · omega
          | _ => cases hp
end
end K19

set_option maxHeartbeats 4000000
namespace K19
open PySem PySem.Spec PyProof.Rows L2 Kin
theorem lt1 {n : Nat} (h : n + 64 < cLine) : n + 1 < cLine := by omega
/-- what a comprehension of lists of texts has made -/
theorem lines_done {ls : List (List Str)} {n : Nat} {D : Addr} {H : Hp} {ys : List V} (eD : H D = some (.lst ys)) (hy : ys.length = n) (hn : ls.length = n)
    (hrow : ∀ (i : Nat) (y : V), ys[i]? = some y → ∃ t ws, ls[i]? = some ws ∧ y = .ref t ∧ hide D H t = some (.lst (ws.map V.str))) : LinesAt H D ls := by
  have ex : ∀ (y : V), y ∈ ys → ∃ t, y = .ref t := fun y hy => by
    obtain ⟨i, hi⟩ := List.getElem?_of_mem hy
    obtain ⟨t, ws, _, e2, _⟩ := hrow i y hi
    exact ⟨t, e2⟩
  obtain ⟨ts, hts⟩ : ∃ ts : List Addr, ys = ts.map V.ref := by
    clear hrow hy eD
    induction ys with
    | nil => exact ⟨[], rfl⟩
    | cons y ys ih =>
      obtain ⟨t, rfl⟩ := ex y List.mem_cons_self
      obtain ⟨ts, rfl⟩ := ih fun z hz => ex z (List.mem_cons_of_mem _ hz)
      exact ⟨t :: ts, rfl⟩
  subst hts
  rw [List.length_map] at hy
  refine ⟨ts, eD, by omega, fun i t ws h1 h2 => ?_⟩
  obtain ⟨t', ws', e1, e2, e3⟩ := hrow i (.ref t) (by rw [List.getElem?_map, h1]; rfl)
  rw [h2] at e1
  cases e1
  cases e2
  unfold hide at e3
  split at e3
  · cases e3
  · exact e3
section
variable {P : Program} {w : World} {K : PySem.W.Frag} {mg : Str → Option Value} {base : Heap}
def sp_lines_of (C : Addr) : Sp := fun vs H Q E => ∃ (x : V) (d : PyData), vs = [x] ∧ Td true H x d ∧ (isStrD d = false → ∀ H', Same H H' → E (.ref C) none H') ∧ (∀ z, d = .str z → ∀ H' l, Same H H' → LinesAt H' l (lnsOf z) → Q (.ref l) H')
theorem ok_lines_of (T : Txt K mg) : FnOk P w K mg base (L2.CX P w) 1 T.a_lines_of T.f_lines_of ["text"] (sp_lines_of T.aT) := by
  refine T.d_lines_of.F.okX sc_lines_of (fun vs H Q E h => ?_) (fun cdv A outer s H vs Q E hr h => ?_)
  · obtain ⟨x, d, rfl, _⟩ := h
    rfl
  · obtain ⟨x, d, rfl, td, q1, q2⟩ := h
    refine ⟨_, (pss_cons (ps_if (PW.pt (pw_or (pt_not (pt_val (pe_callB call_isi (by rfl) T.n_isinstance boot_isinstance (pa_cons (pv 0) (pa_cons (pe_bltn (v := .ty "str") (by rfl) T.n_str b_str rfl) pa_nil))))) (pw_or1 (pt_cmpR op_gt (pe_callB call_len_str (by rfl) T.n_len boot_len (pa_cons (pv 0) pa_nil)) (pe_gI rfl T.g_MOST_SIGNS) (nomark _)))))
        (pss_one (ps_raise rfl (takes_of rfl rfl rfl rfl) (pmk_own PySem.F.excBase_ValueError T.c_NoText.x T.c_NoText.g T.c_NoText.k (raises_own T.c_NoText.b T.c_NoText.t) (by exact rfl))))
        pss_nil)
      (pss_one (ps_ret (pe_lc (own := [("line", 1)]) (g := gName 1) (tt := tYes) rfl sc_lines_of.nd (pi_list (pe_slice sl_list (pe_split (pv 0) pe_str) po_none (po_some (pe_un un_neg pe_int)))) (blkOk_by (N := N_lines_of) (sc := defScope s_lines_of) (by decide +kernel)) (fun _ _ _ _ _ => pg_name (i := 1) sc_lines_of.nd rfl (Or.inl rfl)) (fun _ _ _ _ _ => pts_nil) (fun _ _ _ _ _ => (pe_split (pv 1) pe_str)))))), ?_⟩
    obtain ⟨n, ty, kb, _⟩ := (td.ty (K := K)).ex
    refine ⟨x, rfl, x, .ty "str", .type n, .type "str", _, rfl, .ty "str", ty, kit_ty kb, _, rfl, ?_⟩
    cases td with
    | @str z hz =>
      refine iteF ?_
      refine ⟨_, rfl, z, rfl, by rw [sizeLine_eq]; omega, _, _, rfl, rfl, _, rfl, ?_⟩
      rw [decide_eq_false (by omega)]
      refine iteF ?_
      have bz := lines_bounds hz
      refine ⟨_, rfl, ⟨_, rfl⟩, z, "\n", rfl, rfl, by decide +kernel, by rw [sizeLine_eq]; omega, fun p np => ?_⟩
      have s1 : Same H (upd H p (.lst ((Txt.split z "\n").map V.str))) := same_upd np
      have e1 : upd H p (.lst ((Txt.split z "\n").map V.str)) p = some (.lst ((Txt.split z "\n").map V.str)) := upd_same
      generalize upd H p (.lst ((Txt.split z "\n").map V.str)) = H1 at s1 e1 ⊢
      refine ⟨1, rfl, _, rfl, p, _, rfl, .inl (.inl e1), fun l nl => ?_⟩
      have ec : cutV ((Txt.split z "\n").map V.str) none (some (-1)) = ((Txt.split z "\n").dropLast).map V.str := by rw [cut_init, List.map_dropLast]
      rw [ec]
      have s2 := s1.trans (same_upd (o := .lst (((Txt.split z "\n").dropLast).map V.str)) nl)
      have e2 : upd H1 l (.lst (((Txt.split z "\n").dropLast).map V.str)) l = some (.lst (((Txt.split z "\n").dropLast).map V.str)) := upd_same
      generalize upd H1 l (.lst (((Txt.split z "\n").dropLast).map V.str)) = H2 at s2 e2 ⊢
      have hL : ∀ H', Same H2 H' → SqL K H' l (((Txt.split z "\n").dropLast).map V.str) := fun H' s => .inl (.inl (s _ _ e2))
      refine ⟨l, rfl, ⟨_, hL _ (Same.refl _)⟩, fun D nD => ?_⟩
      have hlen : (lnsOf z).length = ((Txt.split z "\n").dropLast).length := by unfold lnsOf; rw [List.length_map]
      refine lc_gen (walk_list (K := K) (a := l) (xs := ((Txt.split z "\n").dropLast).map V.str)) (PY := fun i y H' => ∃ t ws, (lnsOf z)[i]? = some ws ∧ y = .ref t ∧ H' t = some (.lst (ws.map V.str))) (by rw [List.length_map, ← hlen]; omega) (fun i y H1 H2 ⟨t, ws, e1, e2, e3⟩ s => ⟨t, ws, e1, e2, s _ _ e3⟩) nD (fun H' s => hL H' s) ?_ ?_
      · rintro i v H3 H3' hi s3 ⟨acc, eD⟩ ⟨rfl, ev⟩ Q' hq
        rw [List.getElem?_map] at ev
        cases el : ((Txt.split z "\n").dropLast)[i]? with
        | none => rw [el] at ev; cases ev
        | some x =>
          rw [el] at ev
          cases ev
          have hx : x ∈ Txt.split z "\n" := List.dropLast_subset _ (List.mem_of_getElem? el)
          have hxl : x.length ≤ z.length := part_short hx
          refine ⟨rfl, _, rfl, ⟨_, rfl⟩, x, " ", rfl, rfl, by decide +kernel, by rw [sizeLine_eq]; omega, fun t nt => ?_⟩
          refine hq _ _ (same_upd nt) ⟨t, Txt.split x " ", ?_, rfl, hide_at (fun z0 => ?_) upd_same⟩
          · unfold lnsOf
            rw [List.getElem?_map, el]
            rfl
          · rw [z0, eD] at nt
            cases nt
      · intro H3 ys s3 eD hys hrow
        exact q2 z rfl H3 D (s2.trans s3) (lines_done eD hys (by rw [List.length_map, ← hlen]) hrow)
    | _ => exact iteT (q1 rfl _ (Same.refl _))
def sp_read_stand : Sp := fun vs H Q _ => ∃ (l dd : Addr) (ws : List Str), vs = [.ref l, .ref dd] ∧ H l = some (.lst (ws.map V.str)) ∧ H dd = some (.dK numsK) ∧ 1 ≤ ws.length ∧ ws.length ≤ 1000 ∧ (∀ z ∈ ws, z.length ≤ 1000) ∧ ∀ H' y, Same H H' → Td false H' y (standR ws) → Q y H'
theorem undash {z : Str} {Q : VK} {H : Hp} {σ : L2.St} {i : Nat} (hi : σ[i]? = some (some (.str z))) (q : Q (.str (if z = "-" then "" else z)) H) : if decide (V.str z = V.str "-") = true then tC (.str "") σ H Q else tVar i σ H Q := by
  by_cases e : z = "-"
  · rw [if_pos e] at q
    rw [if_pos (decide_eq_true (by rw [e]))]
    exact q
  · rw [if_neg e] at q
    rw [if_neg (by rw [decide_eq_false (fun h => e (V.str.inj h))]; exact Bool.false_ne_true)]
    exact ⟨_, hi, q⟩
theorem tdAll_strs {L : Bool} {H : Hp} : ∀ {ws : List Str}, (∀ z ∈ ws, z.length ≤ 1000) → TdAll L H (ws.map V.str) (ws.map PyData.str)
  | [], _ => .nil
  | z :: ws, h => .cons (.str (h z List.mem_cons_self)) (tdAll_strs fun y hy => h y (List.mem_cons_of_mem _ hy))
theorem tdAll_nums {L : Bool} {H : Hp} : ∀ ws : List Str, TdAll L H (ws.map fun s => optI (numI s)) (ws.map fun s => optD (numI s))
  | [] => .nil
  | z :: ws => .cons (td_opt _) (tdAll_nums ws)
theorem ok_read_stand (T : Txt K mg) : FnOk P w K mg base CX0 1 T.a_read_stand T.f_read_stand ["words", "numbers"] sp_read_stand := by
  refine T.d_read_stand.F.ok sc_read_stand (fun vs H Q E h => ?_) (fun cdv A outer s H vs Q E hr h => ?_)
  · obtain ⟨l, dd, ws, rfl, _⟩ := h
    rfl
  · obtain ⟨l, dd, ws, rfl, el, ed, n1, n2, hw, q⟩ := h
    refine ⟨_, (pss_cons (ps_asg (pv 0) (pg_starL rfl (pg_name (i := 2) sc_read_stand.nd rfl (Or.inl rfl)) (pg_name (i := 3) sc_read_stand.nd rfl (Or.inl rfl))))
      (pss_one (ps_ret (pe_tup (pa_cons (pe_ifExp (pt_cmpR op_eq (pv 2) pe_str (nomark _)) pe_str (pv 2)) (StX.pa_star (pe_lc (own := [("told", 4)]) (g := gName 4) (tt := tYes) rfl sc_read_stand.nd (pi_list (pv 3)) (blkOk_by (N := N_read_stand) (sc := defScope s_read_stand) (by decide +kernel)) (fun _ _ _ _ _ => pg_name (i := 4) sc_read_stand.nd rfl (Or.inl rfl)) (fun _ _ _ _ _ => pts_nil) (fun _ _ _ _ _ => (pe_dget1 (lt1 hr.units) (pv 1) (pv 4) ⟨rfl, rfl, rfl, rfl⟩))) pa_nil)))))), ?_⟩
    cases ws with
    | nil => exact absurd n1 (by decide)
    | cons z r =>
      refine ⟨_, rfl, l, .str z, r.map V.str, rfl, .inl (.inl el), fun l2 nl2 => ?_⟩
      have s1 : Same H (upd H l2 (.lst (r.map V.str))) := same_upd nl2
      have e2 : upd H l2 (.lst (r.map V.str)) l2 = some (.lst (r.map V.str)) := upd_same
      generalize upd H l2 (.lst (r.map V.str)) = H1 at s1 e2 ⊢
      have ed1 := s1 _ _ ed
      refine ⟨_, rfl, rfl, _, rfl, undash rfl ?_⟩
      have hL : ∀ H', Same H1 H' → SqL K H' l2 (r.map V.str) := fun H' s => .inl (.inl (s _ _ e2))
      refine ⟨_, rfl, l2, rfl, ⟨_, hL _ (Same.refl _)⟩, fun D nD => ?_⟩
      refine lc_vals (walk_list (K := K) (a := l2) (xs := r.map V.str)) (r.map fun s => optI (numI s)) (by rw [List.length_map, List.length_map]) (by rw [List.length_map]; rw [List.length_cons] at n2; omega) nD (fun H' s => hL H' s) ?_ ?_
      · rintro i v H2 H2' hi s2 ⟨rfl, ev⟩ Q' hq
        rw [List.getElem?_map] at ev
        cases e : r[i]? with
        | none => rw [e] at ev; cases ev
        | some y =>
          rw [e] at ev
          cases ev
          have ed2 := s2 _ _ ed1
          refine ⟨rfl, _, rfl, dd, rfl, .inl ⟨_, .inl ed2⟩, _, rfl, _, DGet.k (k := Sum.inr y) ed2, ?_⟩
          rw [valV_nums, get_opt]
          exact hq _ _ (Same.refl _) (by rw [List.getElem?_map, e]; rfl)
      · intro H2 s2 eD
        refine ⟨D, _, rfl, .inr (.inl (.inl eD)), ?_⟩
        refine ⟨?_, fun t nt => ?_⟩
        · show ((V.str (if z = "-" then "" else z)) :: (r.map (fun s => optI (numI s)) ++ [])).length ≤ sizeLine
          rw [List.append_nil, List.length_cons, List.length_map, sizeLine_eq]
          rw [List.length_cons] at n2
          omega
        · refine q _ _ (s1.trans (s2.trans (same_upd nt))) (.tup upd_same ?_ (.cons (.str ?_) ?_))
          · show ((V.str (if z = "-" then "" else z)) :: (r.map (fun s => optI (numI s)) ++ [])).length ≤ 1000
            rw [List.append_nil, List.length_cons, List.length_map]
            rw [List.length_cons] at n2
            omega
          · split
            · decide +kernel
            · exact hw z List.mem_cons_self
          · show TdAll false _ (r.map (fun s => optI (numI s)) ++ []) _
            rw [List.append_nil]
            exact tdAll_nums r
end
end K19

set_option maxHeartbeats 4000000
namespace K19
open PySem PySem.Spec PyProof.Rows L2 Kin
theorem hide_sub {D : Addr} {H : Hp} : Same (hide D H) H := fun b o e => by
  unfold hide at e
  split at e
  · cases e
  · exact e
section
variable {P : Program} {w : World} {K : PySem.W.Frag} {mg : Str → Option Value} {base : Heap}
def parV (s : Str) : V := if s = "-" then .non else .str s
theorem td_par {L : Bool} {H : Hp} {s : Str} (h : s.length ≤ 1000) : Td L H (parV s) (parR s) := by
  unfold parV parR
  split
  · exact .non
  · exact .str h
theorem tdAll_par {L : Bool} {H : Hp} : ∀ {ws : List Str}, (∀ z ∈ ws, z.length ≤ 1000) → TdAll L H (ws.map parV) (ws.map parR)
  | [], _ => .nil
  | z :: ws, h => .cons (td_par (h z List.mem_cons_self)) (tdAll_par fun y hy => h y (List.mem_cons_of_mem _ hy))
theorem tdAll_app {L : Bool} {H : Hp} : ∀ {ds es : List PyData} {vs us : List V}, TdAll L H vs ds → TdAll L H us es → TdAll L H (vs ++ us) (ds ++ es) := TdAll.append
def sp_read_person : Sp := fun vs H Q _ => ∃ (l : Addr) (ws : List Str), vs = [.ref l] ∧ H l = some (.lst (ws.map V.str)) ∧ ws.length ≤ 1000 ∧ (∀ z ∈ ws, z.length ≤ 1000) ∧ ∀ H' y, Same H H' → Td false H' y (persR ws) → Q y H'
theorem unpar {z : Str} {Q : VK} {H : Hp} {σ : L2.St} {i : Nat} (hi : σ[i]? = some (some (.str z))) (q : Q (parV z) H) : if decide (V.str z = V.str "-") = true then tC .non σ H Q else tVar i σ H Q := by
  unfold parV at q
  by_cases e : z = "-"
  · rw [if_pos e] at q
    rw [if_pos (decide_eq_true (by rw [e]))]
    exact q
  · rw [if_neg e] at q
    rw [if_neg (by rw [decide_eq_false (fun h => e (V.str.inj h))]; exact Bool.false_ne_true)]
    exact ⟨_, hi, q⟩
theorem ok_read_person (T : Txt K mg) : FnOk P w K mg base CX0 1 T.a_read_person T.f_read_person ["words"] sp_read_person := by
  refine T.d_read_person.F.ok sc_read_person (fun vs H Q E h => ?_) (fun cdv A outer s H vs Q E hr h => ?_)
  · obtain ⟨l, ws, rfl, _⟩ := h
    rfl
  · obtain ⟨l, ws, rfl, el, n2, hw, q⟩ := h
    refine ⟨_, (pss_one (ps_ret (pe_tup (StX.pa_star (pe_slice sl_list (pv 0) po_none (po_some pe_int)) (StX.pa_star (pe_lc (own := [("parent", 1)]) (g := gName 1) (tt := tYes) rfl sc_read_person.nd (pi_list (pe_slice sl_list (pv 0) (po_some pe_int) po_none)) (blkOk_by (N := N_read_person) (sc := defScope s_read_person) (by decide +kernel)) (fun _ _ _ _ _ => pg_name (i := 1) sc_read_person.nd rfl (Or.inl rfl)) (fun _ _ _ _ _ => pts_nil) (fun _ _ _ _ _ => (pe_ifExp (pt_cmpR op_eq (pv 1) pe_str (nomark _)) pe_non (pv 1)))) pa_nil))))), ?_⟩
    refine ⟨_, rfl, 2, rfl, l, _, rfl, .inl (.inl el), fun p np => ?_⟩
    rw [show cutV (ws.map V.str) none (some 2) = (ws.take 2).map V.str from (cut_take (k := 2)).trans List.map_take.symm]
    have s1 : Same H (upd H p (.lst ((ws.take 2).map V.str))) := same_upd np
    have e1 : upd H p (.lst ((ws.take 2).map V.str)) p = some (.lst ((ws.take 2).map V.str)) := upd_same
    generalize upd H p (.lst ((ws.take 2).map V.str)) = H1 at s1 e1 ⊢
    refine ⟨p, _, rfl, .inr (.inl (.inl e1)), ?_⟩
    refine ⟨_, rfl, 2, rfl, l, _, rfl, .inl (.inl (s1 _ _ el)), fun p2 np2 => ?_⟩
    rw [show cutV (ws.map V.str) (some 2) none = (ws.drop 2).map V.str from (cut_dropG (k := 2)).trans List.map_drop.symm]
    have s2 : Same H1 (upd H1 p2 (.lst ((ws.drop 2).map V.str))) := same_upd np2
    have e2 : upd H1 p2 (.lst ((ws.drop 2).map V.str)) p2 = some (.lst ((ws.drop 2).map V.str)) := upd_same
    generalize upd H1 p2 (.lst ((ws.drop 2).map V.str)) = H2 at s2 e2 ⊢
    have hL : ∀ H', Same H2 H' → SqL K H' p2 ((ws.drop 2).map V.str) := fun H' s => .inl (.inl (s _ _ e2))
    refine ⟨p2, rfl, ⟨_, hL _ (Same.refl _)⟩, fun D nD => ?_⟩
    refine lc_vals (walk_list (K := K) (a := p2) (xs := (ws.drop 2).map V.str)) ((ws.drop 2).map parV) (by rw [List.length_map, List.length_map]) (by rw [List.length_map, List.length_drop]; omega) nD (fun H' s => hL H' s) ?_ ?_
    · rintro i v H3 H3' hi s3 ⟨rfl, ev⟩ Q' hq
      rw [List.getElem?_map] at ev
      cases e : (ws.drop 2)[i]? with
      | none => rw [e] at ev; cases ev
      | some y =>
        rw [e] at ev
        cases ev
        refine ⟨rfl, _, rfl, rfl, _, rfl, unpar rfl ?_⟩
        exact hq _ _ (Same.refl _) (by rw [List.getElem?_map, e]; rfl)
    · intro H3 s3 eD
      refine ⟨D, _, rfl, .inr (.inl (.inl eD)), ?_⟩
      have hlen : ((ws.take 2).map V.str ++ ((ws.drop 2).map parV ++ [])).length ≤ 1000 := by
        rw [List.append_nil, List.length_append, List.length_map, List.length_map, List.length_take, List.length_drop]
        omega
      refine ⟨small_line hlen, fun t nt => ?_⟩
      refine q _ _ (s1.trans (s2.trans (s3.trans (same_upd nt)))) (.tup upd_same hlen ?_)
      rw [List.append_nil]
      exact tdAll_app (tdAll_strs fun z hz => hw z (List.mem_of_mem_take hz)) (tdAll_par fun z hz => hw z (List.mem_of_mem_drop hz))
/-- a text is read -/
def sp_read (ok : PyData → Bool) (f : PyData → PyData) (C : Addr) : Sp := fun vs H Q E => ∃ (x : V) (d : PyData), vs = [x] ∧ Td true H x d ∧ ∀ H', Same H H' → (ok d = true → ∀ v, Td true H' v (f d) → Q v H') ∧ (ok d = false → E (.ref C) none H')
def okS : PyData → Bool
  | .str z => headR z && speechD (speechR z) && decide (speechW (speechR z) = z)
  | _ => false
def okF : PyData → Bool
  | .str z => famD (familyR z) && decide (familyW (familyR z) = z)
  | _ => false
def gotS : PyData → PyData
  | .str z => speechR z
  | _ => .none
def gotF : PyData → PyData
  | .str z => familyR z
  | _ => .none
theorem ok_read_family (T : Txt K mg) : FnOk P w K mg base (L2.CX P w) 5 T.a_read_family T.f_read_family ["text"] (sp_read okF gotF T.aT) := by
  have G_lines_of : FnOk P w K mg base (L2.CX P w) 1 T.a_lines_of T.f_lines_of ["text"] (sp_lines_of T.aT) := ok_lines_of T
  have G_read_person : FnOk P w K mg base CX0 1 T.a_read_person T.f_read_person ["words"] sp_read_person := ok_read_person T
  have G_is_family : FnOk P w K mg base CX0 4 T.a_is_family T.f_is_family ["thing"] sp_is_familyD := ok_is_familyD T
  have G_written_family : FnOk P w K mg base CX0 2 T.a_written_family T.f_written_family ["family"] (sp_written famD familyW) := ok_written_family T
  refine T.d_read_family.F.okX sc_read_family (fun vs H Q E h => ?_) (fun cdv A outer s H vs Q E hr h => ?_)
  · obtain ⟨x, d, rfl, _⟩ := h
    rfl
  · obtain ⟨x, d, rfl, td, q⟩ := h
    refine ⟨_, (pss_cons (ps_set (i := 1) sc_read_family.nd rfl (Or.inl rfl) (pe_callTy call_tuple_of (by rfl) T.n_tuple b_tuple (pa_cons (pe_lc (own := [("words", 2)]) (g := gName 2) (tt := tYes) rfl sc_read_family.nd (pi_list (pe_callS G_lines_of (hr.mono (by decide)) rfl T.d_lines_of.g T.d_lines_of.F.kp T.d_lines_of.b (fun σ => passAt (takes_of rfl rfl rfl rfl) σ) (pa_cons (pv 0) pa_nil))) (blkOk_by (N := N_read_family) (sc := defScope s_read_family) (by decide +kernel)) (fun _ _ _ _ _ => pg_name (i := 2) sc_read_family.nd rfl (Or.inl rfl)) (fun _ _ _ _ _ => pts_nil) (fun _ _ _ _ _ => (pe_call G_read_person (hr.mono (by decide)) rfl T.d_read_person.g T.d_read_person.F.kp T.d_read_person.b .nil pass0 (pa_cons (pv 2) pa_nil)))) pa_nil)))
      (pss_cons (ps_if (PW.pt (pw_or (pt_not (pt_val (pe_call G_is_family (hr.mono (by decide)) rfl T.d_is_family.g T.d_is_family.F.kp T.d_is_family.b .nil pass0 (pa_cons (pv 1) pa_nil)))) (pw_or1 (pt_cmpR op_ne (pe_call G_written_family (hr.mono (by decide)) rfl T.d_written_family.g T.d_written_family.F.kp T.d_written_family.b .nil pass0 (pa_cons (pv 1) pa_nil)) (pv 0) (nomark _)))))
        (pss_one (ps_raise rfl (takes_of rfl rfl rfl rfl) (pmk_own PySem.F.excBase_ValueError T.c_NoText.x T.c_NoText.g T.c_NoText.k (raises_own T.c_NoText.b T.c_NoText.t) (by exact rfl))))
        pss_nil)
      (pss_one (ps_ret (pv 1))))), ?_⟩
    refine ⟨x, rfl, x, d, rfl, td, fun hs H1 s1 => (q H1 s1).2 (by cases d <;> first | rfl | exact Bool.noConfusion hs), fun z hz H1 l s1 hl => ?_⟩
    subst hz
    cases td with
    | str hzl =>
      have bz := lines_bounds hzl
      obtain ⟨ts, el, hts, hrow⟩ := hl.ex
      have hL : ∀ H', Same H1 H' → SqL K H' l (ts.map V.ref) := fun H' s => .inl (.inl (s _ _ el))
      refine ⟨l, rfl, ⟨_, hL _ (Same.refl _)⟩, fun D nD => ?_⟩
      refine lc_tds (walk_list (K := K) (a := l) (xs := ts.map V.ref)) ((lnsOf z).map persR) (by rw [List.length_map, List.length_map, hts]) (by rw [List.length_map, hts]; omega) nD (fun H' s => hL H' s) ?_ ?_
      · rintro i v H2 H2' hi s2 ⟨acc, eD⟩ ⟨rfl, ev⟩ Q' hq
        rw [List.getElem?_map] at ev
        cases et : ts[i]? with
        | none => rw [et] at ev; cases ev
        | some t =>
          rw [et] at ev
          cases ev
          have hi' : i < (lnsOf z).length := by
            rw [← hts]
            exact (List.getElem?_eq_some_iff.mp et).1
          have ew : (lnsOf z)[i]? = some ((lnsOf z)[i]) := List.getElem?_eq_getElem hi'
          have ht := s2 _ _ (hrow i t _ et ew)
          obtain ⟨w1, w2, w3⟩ := bz.2 _ (List.getElem_mem hi')
          refine ⟨rfl, _, rfl, t, _, rfl, ht, w2, w3, fun H3 y s3 ty => ?_⟩
          refine hq H3 y _ s3 (by rw [List.getElem?_map, ew]; rfl) ?_
          refine (Td.move (fun z => Bool.noConfusion z) (fun b xs e => hide_at (fun z0 => ?_) e) (fun z => Bool.noConfusion z) _ _ ty : Td true (hide D H3) y _)
          rw [z0, s3 _ _ eD] at e
          cases e
      · intro H2 ys s2 eD tA
        refine ⟨D, ys, rfl, .inl ⟨.inl (.inl eD), fun t nt => ?_⟩⟩
        have hlen : ys.length ≤ 1000 := by rw [tA.length, List.length_map]; exact bz.1
        have tv : Td true (upd H2 t (.tup ys)) (.ref t) (familyR z) := .tup upd_same hlen ((tA.mono hide_sub).mono (same_upd nt))
        have s3 : Same H (upd H2 t (.tup ys)) := s1.trans (s2.trans (same_upd nt))
        generalize upd H2 t (.tup ys) = H3 at tv s3 ⊢
        refine ⟨_, rfl, _, _, rfl, tv, fun H4 s4 => ⟨_, rfl, ?_⟩⟩
        cases ef : famD (familyR z) with
        | false =>
          refine iteT ((q H4 (s3.trans s4)).2 ?_)
          show (famD (familyR z) && decide (familyW (familyR z) = z)) = false
          rw [ef]
          rfl
        | true =>
          refine iteF ?_
          refine ⟨_, rfl, _, _, rfl, tv.mono s4, ef, fun H5 s5 => ?_⟩
          refine ⟨_, rfl, rfl, _, rfl, ?_⟩
          by_cases ew : familyW (familyR z) = z
          · have e0 : (!decide (V.str (familyW (familyR z)) = V.str z)) = false := by rw [decide_eq_true (by rw [ew])]; rfl
            rw [e0]
            refine iteF ⟨_, rfl, (q H5 (s3.trans (s4.trans s5))).1 ?_ _ (tv.mono (s4.trans s5))⟩
            show (famD (familyR z) && decide (familyW (familyR z) = z)) = true
            rw [ef, decide_eq_true ew]
            rfl
          · have e0 : (!decide (V.str (familyW (familyR z)) = V.str z)) = true := by rw [decide_eq_false (fun h => ew (V.str.inj h))]; rfl
            rw [e0]
            refine iteT ((q H5 (s3.trans (s4.trans s5))).2 ?_)
            show (famD (familyR z) && decide (familyW (familyR z) = z)) = false
            rw [ef, decide_eq_false ew]
            rfl
end
end K19

set_option maxHeartbeats 4000000
namespace K19
open PySem PySem.Spec PyProof.Rows L2 Kin
theorem yes_go {σ : L2.St} {H : Hp} {A B : Hp → Prop} (h : A H) : tYes σ H fun b H3 => if b = true then A H3 else B H3 := by
  show (if true = true then A H else B H)
  rw [if_pos rfl]
  exact h
section
variable {P : Program} {w : World} {K : PySem.W.Frag} {mg : Str → Option Value} {base : Heap}
theorem ok_read_speech (T : Txt K mg) : FnOk P w K mg base (L2.CX P w) 5 T.a_read_speech T.f_read_speech ["text"] (sp_read okS gotS T.aT) := by
  have G_lines_of : FnOk P w K mg base (L2.CX P w) 1 T.a_lines_of T.f_lines_of ["text"] (sp_lines_of T.aT) := ok_lines_of T
  have G_read_stand : FnOk P w K mg base CX0 1 T.a_read_stand T.f_read_stand ["words", "numbers"] sp_read_stand := ok_read_stand T
  have G_is_speech : FnOk P w K mg base CX0 4 T.a_is_speech T.f_is_speech ["thing"] sp_is_speech := ok_is_speech T
  have G_written_speech : FnOk P w K mg base CX0 2 T.a_written_speech T.f_written_speech ["speech"] (sp_written speechD speechW) := ok_written_speech T
  refine T.d_read_speech.F.okX sc_read_speech (fun vs H Q E h => ?_) (fun cdv A outer s H vs Q E hr h => ?_)
  · obtain ⟨x, d, rfl, _⟩ := h
    rfl
  · obtain ⟨x, d, rfl, td, q⟩ := h
    refine ⟨_, (pss_cons (ps_set (i := 1) sc_read_speech.nd rfl (Or.inl rfl) (pe_callS G_lines_of (hr.mono (by decide)) rfl T.d_lines_of.g T.d_lines_of.F.kp T.d_lines_of.b (fun σ => passAt (takes_of rfl rfl rfl rfl) σ) (pa_cons (pv 0) pa_nil)))
      (pss_cons (ps_if (PW.pt (pw_or (pt_not (pt_truth (pv 1) (fun _ => rfl))) (pw_or1 (pt_cmpR op_ne (pe_callB call_len_seq (by rfl) T.n_len boot_len (pa_cons (pe_ix ix_list (pv 1) pe_int (fun _ _ => rfl)) pa_nil)) pe_int (nomark _)))))
        (pss_one (ps_raise rfl (takes_of rfl rfl rfl rfl) (pmk_own PySem.F.excBase_ValueError T.c_NoText.x T.c_NoText.g T.c_NoText.k (raises_own T.c_NoText.b T.c_NoText.t) (by exact rfl))))
        pss_nil)
      (pss_cons (ps_set (i := 2) sc_read_speech.nd rfl (Or.inr rfl) (pe_dc (own := [("number", 5)]) (g := gName 5) (tt := tYes) rfl sc_read_speech.nd (pi_range1 (by rfl) T.n_range (pa_cons (pe_gI rfl T.g_MOST_STANDS) pa_nil)) (blkOk_by (N := N_read_speech) (sc := defScope s_read_speech) (by decide +kernel)) (fun _ _ _ _ _ => pg_name (i := 5) sc_read_speech.nd rfl (Or.inl rfl)) (fun _ _ _ _ _ => pts_nil) (fun _ _ _ _ _ => (pe_callTy call_str_int (by rfl) T.n_str b_str (pa_cons (pv 5) pa_nil))) (fun _ _ _ _ _ => pv 5)))
      (pss_cons (ps_set (i := 3) sc_read_speech.nd rfl (Or.inl rfl) (pe_callTy call_tuple_of (by rfl) T.n_tuple b_tuple (pa_cons (pe_lc (own := [("words", 6)]) (g := gName 6) (tt := tYes) rfl sc_read_speech.nd (pi_list (pe_slice sl_list (pv 1) (po_some pe_int) po_none)) (blkOk_by (N := N_read_speech) (sc := defScope s_read_speech) (by decide +kernel)) (fun _ _ _ _ _ => pg_name (i := 6) sc_read_speech.nd rfl (Or.inl rfl)) (fun _ _ _ _ _ => pts_nil) (fun _ _ _ _ _ => (pe_call G_read_stand (hr.mono (by decide)) rfl T.d_read_stand.g T.d_read_stand.F.kp T.d_read_stand.b .nil pass0 (pa_cons (pv 6) (pa_cons (pv 2) pa_nil))))) pa_nil)))
      (pss_cons (ps_set (i := 4) sc_read_speech.nd rfl (Or.inl rfl) (pe_tup (pa_cons (pe_dget1 (lt1 hr.units) (pv 2) (pe_ix ix_list (pe_ix ix_list (pv 1) pe_int (fun _ _ => rfl)) pe_int (fun _ _ => rfl)) ⟨rfl, rfl, rfl, rfl⟩) (pa_cons (pe_dget1 (lt1 hr.units) (pv 2) (pe_ix ix_list (pe_ix ix_list (pv 1) pe_int (fun _ _ => rfl)) pe_int (fun _ _ => rfl)) ⟨rfl, rfl, rfl, rfl⟩) (pa_cons (pv 3) pa_nil)))))
      (pss_cons (ps_if (PW.pt (pw_or (pt_not (pt_val (pe_call G_is_speech (hr.mono (by decide)) rfl T.d_is_speech.g T.d_is_speech.F.kp T.d_is_speech.b .nil pass0 (pa_cons (pv 4) pa_nil)))) (pw_or1 (pt_cmpR op_ne (pe_call G_written_speech (hr.mono (by decide)) rfl T.d_written_speech.g T.d_written_speech.F.kp T.d_written_speech.b .nil pass0 (pa_cons (pv 4) pa_nil)) (pv 0) (nomark _)))))
        (pss_one (ps_raise rfl (takes_of rfl rfl rfl rfl) (pmk_own PySem.F.excBase_ValueError T.c_NoText.x T.c_NoText.g T.c_NoText.k (raises_own T.c_NoText.b T.c_NoText.t) (by exact rfl))))
        pss_nil)
      (pss_one (ps_ret (pv 4))))))))), ?_⟩
    refine ⟨x, rfl, x, d, rfl, td, fun hs H1 s1 => (q H1 s1).2 (by cases d <;> first | rfl | exact Bool.noConfusion hs), fun z hz H1 l s1 hl => ?_⟩
    subst hz
    cases td with
    | str hzl =>
      have bz := lines_bounds hzl
      obtain ⟨ts, el, hts, hrow⟩ := hl.ex
      have no : headR z = false → ∀ H', Same H H' → E (.ref T.aT) none H' := fun h0 H' s' => (q H' s').2 (by
        show (headR z && speechD (speechR z) && decide (speechW (speechR z) = z)) = false
        rw [h0]
        rfl)
      refine ⟨_, rfl, !(ts.map V.ref).isEmpty, .inl ⟨_, .inl (.inl el), rfl⟩, ?_⟩
      cases ts with
      | nil =>
        refine no ?_ _ s1
        have : lnsOf z = [] := List.eq_nil_of_length_eq_zero hts.symm
        unfold headR
        rw [this]
      | cons t0 tr =>
        obtain ⟨l0, lr, hlz⟩ : ∃ l0 lr, lnsOf z = l0 :: lr := by
          cases h : lnsOf z with
          | nil => rw [h] at hts; cases hts
          | cons a b => exact ⟨a, b, rfl⟩
        have h0 := hrow 0 t0 l0 rfl (by rw [hlz]; rfl)
        have g0 : (List.map V.ref (t0 :: tr))[0]? = some (V.ref t0) := rfl
        refine ⟨_, rfl, l, _, 0, _, rfl, rfl, .inl (.inl el), atI_nat g0, t0, _, rfl, .inl (.inl (.inl h0)), rfl, _, rfl, ?_⟩
        have hh : headR z = decide (l0.length = 4) := by
          unfold headR
          rw [hlz]
        have hl0 : ((List.map V.str l0).length : Int) = (l0.length : Int) := by rw [List.length_map]
        refine ite2 (fun hc => ?_) (fun hc => ?_)
        · refine no ?_ _ s1
          rw [hh]
          refine decide_eq_false fun h4 => ?_
          rw [hl0, h4] at hc
          exact absurd hc (by decide +kernel)
        · have h4 : l0.length = 4 := by
            have hc' : ((List.map V.str l0).length : Int) = 4 := by simpa using hc
            omega
          have bl0 := bz.2 l0 (by rw [hlz]; exact List.mem_cons_self)
          refine ⟨8, rfl, by decide, by decide, fun DN nDN => ?_⟩
          refine dc_it walk_range (fun i H' => Same H1 H' ∧ H' DN = some (.dK (numsK.take i))) ⟨same_upd nDN, upd_same⟩ (fun _ _ _ _ => trivial) ?_ ?_
          · rintro i v H2 H2' hi ⟨s2, e2⟩ ⟨rfl, ev⟩
            have hi : i < 8 := hi
            have ev : v = .int (i : Int) := ev.trans (by show V.int (0 + (i : Int)) = _; rw [Int.zero_add])
            subst ev
            have e8 := (num_len ⟨i, hi⟩).2
            refine ⟨rfl, ?_⟩
            refine yes_go ?_
            refine ⟨_, rfl, _, rfl, e8, ?_⟩
            refine ⟨_, rfl, _, Sum.inr (Str.ofString (toString (i : Int))), rfl, e2, ?_, ?_⟩
            · rw [List.length_take, sizeLine_eq]
              omega
            · have h := nums_put ⟨i, hi⟩
              rw [h]
              exact ⟨same_set s2 nDN, upd_same⟩
          · rintro H2 ⟨s2, e2⟩
            have e2 : H2 DN = some (.dK numsK) := e2
            have el2 := s2 _ _ el
            have e02 := s2 _ _ h0
            refine ⟨_, rfl, 1, rfl, l, _, rfl, .inl (.inl el2), fun p np => ?_⟩
            rw [show cutV (List.map V.ref (t0 :: tr)) (some 1) none = tr.map V.ref from cut_tail]
            have s3 : Same H2 (upd H2 p (.lst (tr.map V.ref))) := same_upd np
            have e3 : upd H2 p (.lst (tr.map V.ref)) p = some (.lst (tr.map V.ref)) := upd_same
            generalize upd H2 p (.lst (tr.map V.ref)) = H3 at s3 e3 ⊢
            have hL : ∀ H', Same H3 H' → SqL K H' p (tr.map V.ref) := fun H' s => .inl (.inl (s _ _ e3))
            have htr : tr.length = lr.length := by
              rw [hlz] at hts
              simpa using hts
            have hlr : lr.length ≤ 1000 := by
              have := bz.1
              rw [hlz, List.length_cons] at this
              omega
            refine ⟨p, rfl, ⟨_, hL _ (Same.refl _)⟩, fun D nD => ?_⟩
            refine lc_tds (walk_list (K := K) (a := p) (xs := tr.map V.ref)) (lr.map standR) (by rw [List.length_map, List.length_map, htr]) (by rw [List.length_map]; omega) nD (fun H' s => hL H' s) ?_ ?_
            · rintro i v H4 H4' hi s4 ⟨acc, eD⟩ ⟨rfl, ev⟩ Q' hq
              rw [List.getElem?_map] at ev
              cases et : tr[i]? with
              | none => rw [et] at ev; cases ev
              | some t =>
                rw [et] at ev
                cases ev
                have hi' : i < lr.length := by
                  rw [← htr]
                  exact (List.getElem?_eq_some_iff.mp et).1
                have ew : lr[i]? = some (lr[i]) := List.getElem?_eq_getElem hi'
                have ht := s4 _ _ (s3 _ _ (s2 _ _ (hrow (i + 1) t _ et (by rw [hlz]; exact ew))))
                obtain ⟨w1, w2, w3⟩ := bz.2 _ (by rw [hlz]; exact List.mem_cons_of_mem _ (List.getElem_mem hi'))
                refine ⟨rfl, _, rfl, _, rfl, t, DN, _, rfl, ht, s4 _ _ (s3 _ _ e2), w1, w2, w3, fun H5 y s5 ty => ?_⟩
                refine hq H5 y _ s5 (by rw [List.getElem?_map, ew]; rfl) ?_
                refine (Td.move (fun z => Bool.noConfusion z) (fun b xs e => hide_at (fun z0 => ?_) e) (fun z => Bool.noConfusion z) _ _ ty : Td true (hide D H5) y _)
                rw [z0, s5 _ _ eD] at e
                cases e
            · intro H4 ys s4 eD tA
              refine ⟨D, ys, rfl, .inl ⟨.inl (.inl eD), fun t nt => ?_⟩⟩
              have hlen : ys.length ≤ 1000 := by rw [tA.length, List.length_map]; exact hlr
              have tv : Td true (upd H4 t (.tup ys)) (.ref t) (.tuple (lr.map standR)) := .tup upd_same hlen ((tA.mono hide_sub).mono (same_upd nt))
              have s5 : Same H2 (upd H4 t (.tup ys)) := s3.trans (s4.trans (same_upd nt))
              generalize upd H4 t (.tup ys) = H5 at tv s5 ⊢
              have a1 : (List.map V.str l0)[1]? = some (V.str (l0.getD 1 "")) := by
                rw [List.getElem?_map, getD_some (l := l0) (k := 1) (d := "") (by omega)]
                rfl
              have a3 : (List.map V.str l0)[3]? = some (V.str (l0.getD 3 "")) := by
                rw [List.getElem?_map, getD_some (l := l0) (k := 3) (d := "") (by omega)]
                rfl
              refine ⟨_, rfl, DN, rfl, .inl ⟨_, .inl (s5 _ _ e2)⟩, ?_⟩
              refine ⟨_, rfl, l, _, 0, _, rfl, rfl, .inl (.inl (s5 _ _ el2)), atI_nat g0, t0, _, 1, _, rfl, rfl, .inl (.inl (s5 _ _ e02)), atI_nat a1, ?_⟩
              refine ⟨_, DGet.k (k := Sum.inr (l0.getD 1 "")) (s5 _ _ e2), ?_⟩
              rw [valV_nums, get_opt]
              refine ⟨_, rfl, DN, rfl, .inl ⟨_, .inl (s5 _ _ e2)⟩, ?_⟩
              refine ⟨_, rfl, l, _, 0, _, rfl, rfl, .inl (.inl (s5 _ _ el2)), atI_nat g0, t0, _, 3, _, rfl, rfl, .inl (.inl (s5 _ _ e02)), atI_nat a3, ?_⟩
              refine ⟨_, DGet.k (k := Sum.inr (l0.getD 3 "")) (s5 _ _ e2), ?_⟩
              rw [valV_nums, get_opt]
              refine ⟨_, rfl, by show 3 ≤ sizeLine; decide, fun t2 nt2 => ?_⟩
              have es : speechR z = .tuple [optD (numI (l0.getD 1 "")), optD (numI (l0.getD 3 "")), .tuple (lr.map standR)] := by
                unfold speechR
                rw [hlz]
              have tv2 : Td true (upd H5 t2 (.tup [optI (numI (l0.getD 1 "")), optI (numI (l0.getD 3 "")), .ref t])) (.ref t2) (speechR z) := by
                rw [es]
                exact .tup upd_same (by show 3 ≤ 1000; decide) (.cons (td_opt _) (.cons (td_opt _) (.cons (tv.mono (same_upd nt2)) .nil)))
              have s6 : Same H (upd H5 t2 (.tup [optI (numI (l0.getD 1 "")), optI (numI (l0.getD 3 "")), .ref t])) := s1.trans (s2.trans (s5.trans (same_upd nt2)))
              generalize upd H5 t2 (.tup [optI (numI (l0.getD 1 "")), optI (numI (l0.getD 3 "")), .ref t]) = H6 at tv2 s6 ⊢
              clear tv e2 es a1 a3 hL
              have eok : okS (.str z) = (speechD (speechR z) && decide (speechW (speechR z) = z)) := by
                show (headR z && speechD (speechR z) && decide (speechW (speechR z) = z)) = _
                rw [hh, decide_eq_true h4, Bool.true_and]
              refine ⟨_, rfl, _, _, rfl, tv2, fun H7 s7 => ⟨_, rfl, ?_⟩⟩
              cases ef : speechD (speechR z) with
              | false =>
                refine iteT ((q H7 (s6.trans s7)).2 ?_)
                rw [eok, ef]
                rfl
              | true =>
                refine iteF ?_
                refine ⟨_, rfl, _, _, rfl, tv2.mono s7, ef, fun H8 s8 => ?_⟩
                refine ⟨_, rfl, rfl, _, rfl, ?_⟩
                by_cases ew : speechW (speechR z) = z
                · have e0 : (!decide (V.str (speechW (speechR z)) = V.str z)) = false := by rw [decide_eq_true (by rw [ew])]; rfl
                  rw [e0]
                  refine iteF ⟨_, rfl, (q H8 (s6.trans (s7.trans s8))).1 ?_ _ (tv2.mono (s7.trans s8))⟩
                  rw [eok, ef, decide_eq_true ew]
                  rfl
                · have e0 : (!decide (V.str (speechW (speechR z)) = V.str z)) = true := by rw [decide_eq_false (fun h => ew (V.str.inj h))]; rfl
                  rw [e0]
                  refine iteT ((q H8 (s6.trans (s7.trans s8))).2 ?_)
                  rw [eok, ef, decide_eq_false ew]
                  rfl
end
end K19

set_option maxHeartbeats 4000000
namespace K19
open PySem PySem.Spec PyProof.Rows L2 Kin
/-- told is the refusal of that number -/
def Refd (H : Hp) (Q : VK) (j : Nat) : Prop := ∀ H' t, Same H H' → H' t = some (.tup [.str "refused", .int (j : Nat)]) → Q (.ref t) H'
theorem Refd.mono {H H' : Hp} {Q : VK} {j : Nat} (r : Refd H Q j) (s : Same H H') : Refd H' Q j := fun H2 t s2 e => r H2 t (s.trans s2) e
structure Js (K : PySem.W.Frag) (mg : Str → Option Value) (C : Cls K mg) (F S X aK : Addr) : Prop where
  j0 : IsJ K mg C F 0
  j5 : IsJ K mg C S 5
  j13 : IsJ K mg C X 13
  gK : mg "KinError" = some (.ref aK)
  e0 : PySem.W.exmOne K (.ref F) (.ref aK) = some true
  e5 : PySem.W.exmOne K (.ref S) (.ref aK) = some true
  e13 : PySem.W.exmOne K (.ref X) (.ref aK) = some true
def sp_gen (g : PyData → Bool) (R : PyData → Hp → V → Prop) (C : Addr) : Sp := fun vs H Q E => ∃ (x : V) (d : PyData), vs = [x] ∧ Td true H x d ∧ ∀ H', Same H H' → (g d = true → ∀ v, R d H' v → Q v H') ∧ (g d = false → E (.ref C) none H')
def RkS (f : PyData → Str) : PyData → Hp → V → Prop := fun d _ v => v = .str (f d)
def RkT (f : PyData → PyData) : PyData → Hp → V → Prop := fun d H v => Td true H v (f d)
def gk : Nat → PyData → Bool
  | 0 => speechD
  | 1 => famD
  | 2 => okS
  | _ => okF
def Rk : Nat → PyData → Hp → V → Prop
  | 0 => RkS speechW
  | 1 => RkS familyW
  | 2 => RkT gotS
  | _ => RkT gotF
def jk : Nat → Nat
  | 0 => 5
  | 1 => 0
  | _ => 13
section
variable {P : Program} {w : World} {K : PySem.W.Frag} {mg : Str → Option Value} {base : Heap}
theorem ok_speech_text (T : Txt K mg) : FnOk P w K mg base (L2.CX P w) 6 T.a_speech_text T.f_speech_text ["speech"] (sp_gen speechD (RkS speechW) T.aS) := by
  have G_need_speech : FnOk P w K mg base (L2.CX P w) 5 T.a_need_speech T.f_need_speech ["thing"] (sp_need speechD T.aS) := ok_need_speech T
  have G_written_speech : FnOk P w K mg base CX0 2 T.a_written_speech T.f_written_speech ["speech"] (sp_written speechD speechW) := ok_written_speech T
  refine T.d_speech_text.F.okX sc_speech_text (fun vs H Q E h => ?_) (fun cdv A outer s H vs Q E hr h => ?_)
  · obtain ⟨x, d, rfl, _⟩ := h
    rfl
  · obtain ⟨x, d, rfl, td, q⟩ := h
    refine ⟨_, (pss_cons (ps_expr (pe_callS G_need_speech (hr.mono (by decide)) rfl T.d_need_speech.g T.d_need_speech.F.kp T.d_need_speech.b (fun σ => passAt (takes_of rfl rfl rfl rfl) σ) (pa_cons (pv 0) pa_nil)))
      (pss_one (ps_ret (pe_call G_written_speech (hr.mono (by decide)) rfl T.d_written_speech.g T.d_written_speech.F.kp T.d_written_speech.b .nil pass0 (pa_cons (pv 0) pa_nil))))), ?_⟩
    refine ⟨x, rfl, x, d, rfl, td, fun H1 s1 => ⟨fun hd => ?_, fun hd => (q H1 s1).2 hd⟩⟩
    exact ⟨x, rfl, x, d, rfl, td.mono s1, hd, fun H2 s2 => (q H2 (s1.trans s2)).1 hd _ rfl⟩
theorem ok_family_text (T : Txt K mg) : FnOk P w K mg base (L2.CX P w) 6 T.a_family_text T.f_family_text ["family"] (sp_gen famD (RkS familyW) T.aF) := by
  have G_need_family : FnOk P w K mg base (L2.CX P w) 5 T.a_need_family T.f_need_family ["thing"] (sp_need famD T.aF) := ok_need_familyD T
  have G_written_family : FnOk P w K mg base CX0 2 T.a_written_family T.f_written_family ["family"] (sp_written famD familyW) := ok_written_family T
  refine T.d_family_text.F.okX sc_family_text (fun vs H Q E h => ?_) (fun cdv A outer s H vs Q E hr h => ?_)
  · obtain ⟨x, d, rfl, _⟩ := h
    rfl
  · obtain ⟨x, d, rfl, td, q⟩ := h
    refine ⟨_, (pss_cons (ps_expr (pe_callS G_need_family (hr.mono (by decide)) rfl T.d_need_family.g T.d_need_family.F.kp T.d_need_family.b (fun σ => passAt (takes_of rfl rfl rfl rfl) σ) (pa_cons (pv 0) pa_nil)))
      (pss_one (ps_ret (pe_call G_written_family (hr.mono (by decide)) rfl T.d_written_family.g T.d_written_family.F.kp T.d_written_family.b .nil pass0 (pa_cons (pv 0) pa_nil))))), ?_⟩
    refine ⟨x, rfl, x, d, rfl, td, fun H1 s1 => ⟨fun hd => ?_, fun hd => (q H1 s1).2 hd⟩⟩
    exact ⟨x, rfl, x, d, rfl, td.mono s1, hd, fun H2 s2 => (q H2 (s1.trans s2)).1 hd _ rfl⟩
def sp_law_ask : Sp := fun vs H Q _ => ∃ (k : Nat) (x : V) (d : PyData), vs = [.int (k : Nat), x] ∧ k < 4 ∧ Td true H x d ∧ ∀ H', Same H H' → (gk k d = true → ∀ v, Rk k d H' v → Q v H') ∧ (gk k d = false → Refd H' Q (jk k))
theorem ok_law_ask {aK : Addr} (T : Txt K mg) (C : Cls K mg) (J : Js K mg C T.aF T.aS T.aT aK) : FnOk P w K mg base CX0 7 T.a_law_ask T.f_law_ask ["_law_what", "_law_thing"] sp_law_ask := by
  have GW : FnP P w K mg base 1 T.a_law_which T.f_law_which ["_law_e"] (sp_which K mg C) := ok_which C T.n_isinstance T.d_law_which
  refine T.d_law_ask.F.ok sc_law_ask (fun vs H Q E h => ?_) (fun cdv A outer s H vs Q E hr h => ?_)
  · obtain ⟨k, x, d, rfl, _⟩ := h
    rfl
  · obtain ⟨k, x, d, rfl, hk, td, q⟩ := h
    have hS : ∀ f sp, ((f = T.a_speech_text ∧ sp = sp_gen speechD (RkS speechW) T.aS) ∨ (f = T.a_family_text ∧ sp = sp_gen famD (RkS familyW) T.aF) ∨ (f = T.a_read_speech ∧ sp = sp_gen okS (RkT gotS) T.aT) ∨ (f = T.a_read_family ∧ sp = sp_gen okF (RkT gotF) T.aT)) → HeldX P w K mg base (L2.CX P w) 6 f sp := by
      rintro f sp (⟨rfl, rfl⟩ | ⟨rfl, rfl⟩ | ⟨rfl, rfl⟩ | ⟨rfl, rfl⟩)
      · exact ⟨_, _, ok_speech_text T, T.d_speech_text.F.kp, T.d_speech_text.b⟩
      · exact ⟨_, _, ok_family_text T, T.d_family_text.F.kp, T.d_family_text.b⟩
      · exact ⟨_, _, (ok_read_speech T).mono (by decide), T.d_read_speech.F.kp, T.d_read_speech.b⟩
      · exact ⟨_, _, (ok_read_family T).mono (by decide), T.d_read_family.F.kp, T.d_read_family.b⟩
    refine ⟨_, (pss_one (ps_try_as (i := 2) rfl rfl sc_law_ask.nd rfl rfl ⟨rfl, by decide, .inl J.gK⟩ takes0 (fun W pn xe tk _ =>
        (pss_one (ps_ret (pe_callX hS hr (fun σ => passAt tk σ) (pe_ix (r := rIxL K) ix_list (pe_lst (pa_cons (pe_gR rfl T.d_speech_text.g) (pa_cons (pe_gR rfl T.d_family_text.g) (pa_cons (pe_gR rfl T.d_read_speech.g) (pa_cons (pe_gR rfl T.d_read_family.g) pa_nil))))) (pv 0) (fun _ _ => rfl)) (pa_cons (pv 1) pa_nil))))) (fun a oe cls d pn hz hf =>
        (pss_one (ps_ret (pe_callP GW (show L2H.RoomH 1 _ from ⟨(hr.mono (j := 1) (by decide)).dp, (hr.mono (j := 1) (by decide)).un⟩) List.mem_cons_self hz hf rfl T.d_law_which.g T.d_law_which.F.kp T.d_law_which.b (pa_cons (pv 2) pa_nil))))))), ?_⟩
    have catch_ : ∀ {D : Addr} {j : Nat} {H1 : Hp} {k x : V}, IsJ K mg C D j → PySem.W.exmOne K (.ref D) (.ref aK) = some true → Refd H1 Q j →
        WE (wAs K (.ref aK) 2 (fun a cls d => tRet (tCallP a cls d (sp_which K mg C) (tCons (tVar 2) tNil))) (fun _ _ _ _ => False) { nx := fun _ H' => Q .non H', rt := Q }) (L2.start N_law_ask [k, x]) (.ref D) none H1 := by
      intro D j H1 k x JD eD hq
      refine ⟨true, eD, fun _ a ha => ?_, fun z => Bool.noConfusion z⟩
      exact ⟨rfl, _, rfl, D, j, rfl, JD, rfl, fun H' t s2 _ e => hq H' t s2 e⟩
    refine ⟨by show 4 ≤ sizeLine; decide, fun l nl => ?_⟩
    have sl := same_upd (o := .lst [.ref T.a_speech_text, .ref T.a_family_text, .ref T.a_read_speech, .ref T.a_read_family]) nl
    have el := upd_same (H := H) (a := l) (o := .lst [.ref T.a_speech_text, .ref T.a_family_text, .ref T.a_read_speech, .ref T.a_read_family])
    refine ⟨_, rfl, l, _, k, [V.ref T.a_speech_text, V.ref T.a_family_text, V.ref T.a_read_speech, V.ref T.a_read_family].getD k .non, rfl, rfl, .inl (.inl el), atI_nat (getD_some (by show k < 4; exact hk)), ?_⟩
    generalize upd H l (.lst [.ref T.a_speech_text, .ref T.a_family_text, .ref T.a_read_speech, .ref T.a_read_family]) = H0 at sl el ⊢
    have td0 := td.mono sl
    match k, hk, q with
    | 0, _, q => exact ⟨T.a_speech_text, _, rfl, .inl ⟨rfl, rfl⟩, _, rfl, x, d, rfl, td0, fun H1 s1 => ⟨fun h v r => (q H1 (sl.trans s1)).1 h v r, fun h => catch_ J.j5 J.e5 ((q H1 (sl.trans s1)).2 h)⟩⟩
    | 1, _, q => exact ⟨T.a_family_text, _, rfl, .inr (.inl ⟨rfl, rfl⟩), _, rfl, x, d, rfl, td0, fun H1 s1 => ⟨fun h v r => (q H1 (sl.trans s1)).1 h v r, fun h => catch_ J.j0 J.e0 ((q H1 (sl.trans s1)).2 h)⟩⟩
    | 2, _, q => exact ⟨T.a_read_speech, _, rfl, .inr (.inr (.inl ⟨rfl, rfl⟩)), _, rfl, x, d, rfl, td0, fun H1 s1 => ⟨fun h v r => (q H1 (sl.trans s1)).1 h v r, fun h => catch_ J.j13 J.e13 ((q H1 (sl.trans s1)).2 h)⟩⟩
    | 3, _, q => exact ⟨T.a_read_family, _, rfl, .inr (.inr (.inr ⟨rfl, rfl⟩)), _, rfl, x, d, rfl, td0, fun H1 s1 => ⟨fun h v r => (q H1 (sl.trans s1)).1 h v r, fun h => catch_ J.j13 J.e13 ((q H1 (sl.trans s1)).2 h)⟩⟩
end
end K19

set_option maxHeartbeats 8000000
namespace K19
open PySem PySem.Spec PyProof.Rows L2 Kin
/-! ### what is written is read -/
/-- a word without a blank and a line feed -/
def cleanW (z : Str) : Prop := 32 ∉ z.cps.toList ∧ 10 ∉ z.cps.toList
theorem joinL_nil : ∀ ps : List (List Nat), TL.joinL [] ps = ps.flatten
  | [] => rfl
  | [p] => by simp [TL.joinL]
  | p :: q :: r => by
    show p ++ ([] ++ TL.joinL [] (q :: r)) = _
    rw [joinL_nil (q :: r), List.nil_append]
    rfl
theorem joinL_end (S : List Nat) : ∀ ps : List (List Nat), TL.joinL S (ps ++ [[]]) = (ps.map (· ++ S)).flatten
  | [] => rfl
  | [p] => by
    show p ++ (S ++ []) = _
    simp
  | p :: q :: r => by
    show p ++ (S ++ TL.joinL S (q :: r ++ [[]])) = _
    rw [joinL_end S (q :: r)]
    simp
theorem joinL_mem {c : Nat} {S : List Nat} : ∀ {ps : List (List Nat)}, c ∈ TL.joinL S ps → c ∈ S ∨ ∃ p ∈ ps, c ∈ p
  | [], h => by cases h
  | [p], h => .inr ⟨p, List.mem_cons_self, h⟩
  | p :: q :: r, h => by
    have h' : c ∈ p ++ (S ++ TL.joinL S (q :: r)) := h
    rcases List.mem_append.mp h' with h | h
    · exact .inr ⟨p, List.mem_cons_self, h⟩
    · rcases List.mem_append.mp h with h | h
      · exact .inl h
      · rcases joinL_mem h with h | ⟨p', m, h⟩
        · exact .inl h
        · exact .inr ⟨p', List.mem_cons_of_mem _ m, h⟩
theorem tl_joinT (y : Str) (parts : List Str) : TL.tl (Txt.join y parts) = TL.joinL (TL.tl y) (parts.map TL.tl) := by rw [TL.join_eq, TL.tl_join]
theorem lines_join (ls : List (List Str)) : linesTxt ls = Txt.join "\n" (ls.map (Txt.join " ") ++ [Str.ofString ""]) := by
  unfold linesTxt
  refine TL.ext_tl ?_
  rw [tl_joinT, tl_joinT]
  have h0 : TL.tl (Str.ofString "") = [] := by decide +kernel
  have h1 : TL.tl (Str.ofString "\n") = [10] := by decide +kernel
  rw [h0, h1, joinL_nil, List.map_append, List.map_singleton, h0, joinL_end, List.map_map, List.map_map, List.map_map]
  congr 1
  refine List.map_congr_left fun ws _ => ?_
  show TL.tl (Txt.join " " ws ++ "\n") = TL.tl (Txt.join " " ws) ++ [10]
  rw [TL.tl_append, h1]
theorem lines_back {ls : List (List Str)} (h1 : ∀ ws ∈ ls, ws ≠ [] ∧ ∀ w ∈ ws, cleanW w) : lnsOf (linesTxt ls) = ls := by
  unfold lnsOf
  rw [lines_join, TL.split_join (y := "\n") (s := 10) (S := []) (by decide +kernel) (by decide +kernel) (by simp) ?_]
  · rw [List.dropLast_concat, List.map_map]
    refine (List.map_congr_left fun ws hw => ?_).trans (List.map_id ls)
    obtain ⟨n1, n2⟩ := h1 ws hw
    show Txt.split (Txt.join " " ws) " " = ws
    exact TL.split_join (y := " ") (s := 32) (S := []) (by decide +kernel) (by decide +kernel) n1 fun p hp => (n2 p hp).1
  · intro p hp
    rcases List.mem_append.mp hp with hp | hp
    · obtain ⟨ws, hw, rfl⟩ := List.mem_map.mp hp
      rw [tl_joinT]
      intro hc
      have h2 : TL.tl (Str.ofString " ") = [32] := by decide +kernel
      rw [h2] at hc
      rcases joinL_mem hc with h | ⟨q, m, h⟩
      · exact absurd (List.mem_singleton.mp h) (by decide)
      · obtain ⟨z, hz, rfl⟩ := List.mem_map.mp m
        exact ((h1 ws hw).2 z hz).2 h
    · rw [List.mem_singleton.mp hp]
      decide +kernel
theorem clean_letters {z : Str} (h : z.cps.toList.all letC = true) : cleanW z := by
  refine ⟨fun hc => ?_, fun hc => ?_⟩
  · have := List.all_eq_true.mp h _ hc
    exact absurd this (by decide +kernel)
  · have := List.all_eq_true.mp h _ hc
    exact absurd this (by decide +kernel)
theorem clean_dash : cleanW "-" := by
  unfold cleanW
  decide +kernel
theorem clean_num : ∀ k : _root_.Fin 8, cleanW (Str.ofString (toString (k.val : Int))) := by
  unfold cleanW
  decide +kernel
theorem num_back : ∀ k : _root_.Fin 8, numI (Str.ofString (toString (k.val : Int))) = some (k.val : Int) := by decide +kernel
theorem letter_dash {z : Str} (h : z.cps.toList.all letC = true) : z ≠ "-" := fun e => by
  rw [e] at h
  exact absurd h (by decide +kernel)
theorem word_back {z : Str} (h : z.cps.toList.all letC = true) : (if wordW z = "-" then Str.ofString "" else wordW z) = z := by
  unfold wordW
  by_cases e : z = ""
  · rw [if_pos e, if_pos rfl, e]
  · rw [if_neg e, if_neg (letter_dash h)]
theorem word_clean {z : Str} (h : z.cps.toList.all letC = true) : cleanW (wordW z) := by
  unfold wordW
  split
  · exact clean_dash
  · exact clean_letters h
theorem let_all {m : Nat} {z : Str} (h : letD m (.str z) = true) : z.cps.toList.all letC = true := by
  have h' : (decide (z.length ≤ m) && z.cps.toList.all letC) = true := h
  rw [Bool.and_eq_true] at h'
  exact h'.2
theorem stand_all {m : Nat} {d : PyData} (h : standD (m : Int) d = true) (hm : m ≤ 8) : ∃ w ns, d = .tuple (.str w :: ns) ∧ w.cps.toList.all letC = true ∧ ns.length = 4 ∧ ∀ e ∈ ns, ∃ k : _root_.Fin 8, e = .int (k.val : Int) := by
  obtain ⟨w, ns, rfl, _, h4, h5⟩ := stand_inv hm h
  have h' : (decide (ns.length = 4) && letD 8 (.str w) && ns.all (numD (m : Int))) = true := h
  rw [Bool.and_eq_true, Bool.and_eq_true] at h'
  exact ⟨w, ns, rfl, let_all h'.1.2, h4, h5⟩
theorem nums_back {ns : List PyData} (h : ∀ e ∈ ns, ∃ k : _root_.Fin 8, e = .int (k.val : Int)) : (ns.map numW).map (fun s => optD (numI s)) = ns := by
  rw [List.map_map]
  refine (List.map_congr_left fun e he => ?_).trans (List.map_id ns)
  obtain ⟨k, rfl⟩ := h e he
  show optD (numI (Str.ofString (toString (k.val : Int)))) = _
  rw [num_back k]
  rfl
theorem speech_lines {d : PyData} (h : speechD d = true) : ∃ (a b : _root_.Fin 8) (ss : List PyData), d = .tuple [.int (a.val : Int), .int (b.val : Int), .tuple ss] ∧
    lnsOf (speechW d) = ([Str.ofString "he", numW (.int (a.val : Int)), Str.ofString "she", numW (.int (b.val : Int))] : List Str) :: ss.map standW ∧ ss.map (fun s => standR (standW s)) = ss := by
  obtain ⟨a, b, ss, rfl, h1, h8, hs⟩ := speech_inv h
  refine ⟨a, b, ss, rfl, ?_, ?_⟩
  · refine lines_back fun ws hw => ?_
    rcases List.mem_cons.mp hw with rfl | hw
    · refine ⟨by simp, fun z hz => ?_⟩
      simp only [List.mem_cons, List.not_mem_nil, or_false] at hz
      rcases hz with rfl | rfl | rfl | rfl
      · unfold cleanW; decide +kernel
      · exact clean_num a
      · unfold cleanW; decide +kernel
      · exact clean_num b
    · obtain ⟨s, hs', rfl⟩ := List.mem_map.mp hw
      obtain ⟨w, ns, rfl, hl, _, hn⟩ := stand_all (hs s hs') h8
      refine ⟨List.cons_ne_nil _ _, fun z hz => ?_⟩
      rcases List.mem_cons.mp hz with rfl | hz
      · exact word_clean hl
      · obtain ⟨e, he, rfl⟩ := List.mem_map.mp hz
        obtain ⟨k, rfl⟩ := hn e he
        exact clean_num k
  · refine (List.map_congr_left fun s hs' => ?_).trans (List.map_id ss)
    obtain ⟨w, ns, rfl, hl, _, hn⟩ := stand_all (hs s hs') h8
    show PyData.tuple (.str (if wordW w = "-" then Str.ofString "" else wordW w) :: (ns.map numW).map (fun s => optD (numI s))) = _
    rw [word_back hl, nums_back hn]
    rfl
theorem speech_back {d : PyData} (h : speechD d = true) : speechR (speechW d) = d ∧ okS (.str (speechW d)) = true := by
  obtain ⟨a, b, ss, hd, hl, hs⟩ := speech_lines h
  have e1 : speechR (speechW d) = d := by
    unfold speechR
    rw [hl]
    show PyData.tuple [optD (numI (numW (.int (a.val : Int)))), optD (numI (numW (.int (b.val : Int)))), .tuple ((ss.map standW).map standR)] = d
    rw [hd, List.map_map]
    show PyData.tuple [optD (numI (Str.ofString (toString (a.val : Int)))), optD (numI (Str.ofString (toString (b.val : Int)))), .tuple (ss.map fun s => standR (standW s))] = _
    rw [hs, num_back a, num_back b]
    rfl
  refine ⟨e1, ?_⟩
  have e2 : headR (speechW d) = true := by
    unfold headR
    rw [hl]
    rfl
  show (headR (speechW d) && speechD (speechR (speechW d)) && decide (speechW (speechR (speechW d)) = speechW d)) = true
  rw [e1, e2, h, decide_eq_true rfl]
  rfl
/-! families -/
theorem part_back {z : Str} (h : z.cps.toList.all letC = true) (h0 : z ≠ "") : wordW z = z ∧ parR z = .str z := by
  refine ⟨if_neg h0, if_neg (letter_dash h)⟩
theorem name_all {z : Str} (h : nameD (.str z) = true) : z.cps.toList.all letC = true ∧ z ≠ "" := by
  have h' : (letD 6 (.str z) && !decide (z = "")) = true := h
  rw [Bool.and_eq_true] at h'
  exact ⟨let_all h'.1, fun e => by simp [e] at h'⟩
theorem sex_all {z : Str} (h : sexD (.str z) = true) : z.cps.toList.all letC = true ∧ z ≠ "" := by
  have h' : (decide (z = "he") || decide (z = "she")) = true := h
  rw [Bool.or_eq_true, decide_eq_true_eq, decide_eq_true_eq] at h'
  rcases h' with rfl | rfl
  · exact ⟨by decide +kernel, by decide +kernel⟩
  · exact ⟨by decide +kernel, by decide +kernel⟩
theorem par_back {d : PyData} (h : parD d = true) (hd : d = .none ∨ ∃ z, d = .str z) : parR (partW d) = d ∧ cleanW (partW d) := by
  rcases hd with rfl | ⟨z, rfl⟩
  · exact ⟨rfl, clean_dash⟩
  · obtain ⟨h1, h2⟩ := name_all h
    obtain ⟨e1, e2⟩ := part_back h1 h2
    show parR (wordW z) = _ ∧ cleanW (wordW z)
    rw [e1]
    exact ⟨e2, clean_letters h1⟩
theorem pers_back {d : PyData} (h : persD d = true) : persR (persW d) = d ∧ persW d ≠ [] ∧ ∀ w ∈ persW d, cleanW w := by
  obtain ⟨zn, zs, f, m, rfl, hf, hm⟩ := persD_is h
  have h' : (nameD (.str zn) && sexD (.str zs) && parD f && parD m) = true := h
  simp only [Bool.and_eq_true] at h'
  obtain ⟨⟨⟨h1, h2⟩, h3⟩, h4⟩ := h'
  obtain ⟨n1, n2⟩ := name_all h1
  obtain ⟨s1, s2⟩ := sex_all h2
  obtain ⟨f1, f2⟩ := par_back h3 hf
  obtain ⟨m1, m2⟩ := par_back h4 hm
  have en := (part_back n1 n2).1
  have es := (part_back s1 s2).1
  have ew : persW (.tuple [.str zn, .str zs, f, m]) = [wordW zn, wordW zs, partW f, partW m] := rfl
  rw [ew, en, es]
  refine ⟨?_, List.cons_ne_nil _ _, fun w hw => ?_⟩
  · show PyData.tuple ([.str zn, .str zs] ++ [parR (partW f), parR (partW m)]) = _
    rw [f1, m1]
    rfl
  · simp only [List.mem_cons, List.not_mem_nil, or_false] at hw
    rcases hw with rfl | rfl | rfl | rfl
    · exact clean_letters n1
    · exact clean_letters s1
    · exact f2
    · exact m2
theorem family_back {d : PyData} (h : famD d = true) : familyR (familyW d) = d ∧ okF (.str (familyW d)) = true := by
  obtain ⟨ps, rfl, _, _, hp⟩ := fam_inv h
  have hl : lnsOf (familyW (.tuple ps)) = ps.map persW := lines_back fun ws hw => by
    obtain ⟨p, m, rfl⟩ := List.mem_map.mp hw
    exact (pers_back (hp p m)).2
  have e1 : familyR (familyW (.tuple ps)) = .tuple ps := by
    unfold familyR
    rw [hl, List.map_map]
    congr 1
    refine (List.map_congr_left fun p m => ?_).trans (List.map_id ps)
    exact (pers_back (hp p m)).1
  refine ⟨e1, ?_⟩
  show (famD (familyR (familyW (.tuple ps))) && decide (familyW (familyR (familyW (.tuple ps))) = familyW (.tuple ps))) = true
  rw [e1, h, decide_eq_true rfl]
  rfl
end K19

set_option maxHeartbeats 4000000
namespace Kin
open PySem PySem.Spec PyProof.Rows L2
def rAddS : R2 := fun x y H Q => ∃ i j, x = .str i ∧ y = .str j ∧ i.length + j.length ≤ sizeLine ∧ Q (.str (i ++ j)) H
theorem op_addS {X : Cx} : OpR X (binaryOp .Add) rAddS := op_add_str
def rMulS : R2 := fun x y H Q => ∃ (z : Str) (n : Nat), x = .str z ∧ y = .int (n : Nat) ∧ 1 ≤ z.length ∧ z.length ≤ 1000 ∧ 1 < n ∧ n ≤ 1000 ∧ (strRep z n).length ≤ sizeLine ∧ Q (.str (strRep z n)) H
theorem op_mulS1 {X : Cx} : OpR X (binaryOp .Mult) rMulS := by
  intro pins s σ H x y v u Q I rx ry h
  obtain ⟨z, n, rfl, rfl, hz, hz2, h1, h2, h3, q⟩ := h
  obtain ⟨t, rfl⟩ := rx
  obtain ⟨t', rfl⟩ := ry
  have c1 : ¬ ((n : Int) < 1) := by omega
  have c2 : ((n : Int) == 1 || z.length == 0) = false := by
    rw [Bool.or_eq_false_iff]
    exact ⟨beq_eq_false_iff_ne.mpr (by omega), beq_eq_false_iff_ne.mpr (by omega)⟩
  refine PySem.P.mul_str ?_ (fun _ _ => ?_) (fun _ _ => ?_) ?_
  · rw [decide_eq_false (by omega), decide_eq_false (by omega)]
    rfl
  · intro hgt
    have h6 : (1000 : Int) ≤ (2 ^ 63 - 1) / (n : Int) := Int.le_ediv_of_mul_le (by omega) (by omega)
    have : ((z.length : Nat) : Int) > (2 ^ 63 - 1) / (n : Int) := hgt
    omega
  · have e : Int.toNat (n : Int) = n := rfl
    rw [e]
    unfold Builtin.Str.tooLong
    rw [sizeLine_eq]
    have : z.length * n ≤ 1000 * 1000 := Nat.mul_le_mul hz2 h2
    exact decide_eq_false (by omega)
  · rw [if_neg c1, if_neg (by rw [c2]; exact Bool.false_ne_true)]
    exact ⟨h3, .str (strRep z n), H, I.tok _, ⟨_, rfl⟩, q⟩
section
variable {K : PySem.W.Frag} {vw : Hp → Hp} {H0 : Hp} {σ : L2.St} {te tf : TE}
theorem mk_addS {a b : Str} (hl : (a ++ b).length ≤ 1000) (h : Mk vw H0 te σ (.str a)) (h' : Mk vw H0 tf σ (.str b)) : Mk vw H0 (tOp rAddS te tf) σ (.str (a ++ b)) := fun H Q s c =>
  h H _ s fun H1 x s1 t1 => h' H1 _ (s.trans s1) fun H2 y s2 t2 => by
    cases t1
    cases t2
    have e : (a ++ b).length = a.length + b.length := by
      show (a.cps ++ b.cps).size = _
      rw [Array.size_append]
      rfl
    exact ⟨a, b, rfl, rfl, by rw [sizeLine_eq]; omega, c H2 _ (s1.trans s2) (.str hl)⟩
theorem mk_cutS {a : Str} (hl : (cutS a none (some (-1))).length ≤ 1000) (h : Mk vw H0 te σ (.str a)) : Mk vw H0 (tSl rSlS te tNoPart (tPart (tUn (rU fun i => .int (-i)) (tC (.int 1))))) σ (.str (cutS a none (some (-1)))) := fun H Q s c =>
  h H _ s fun H1 x s1 t1 => by
    cases t1 with
    | str hz => exact ⟨1, rfl, -1, rfl, a, rfl, by rw [sizeLine_eq]; omega, c H1 _ s1 (.str hl)⟩
theorem mk_mulS {a : Str} {n : Nat} (h1 : 1 ≤ a.length) (h2 : 1 < n) (h3 : n ≤ 1000) (hl : (strRep a n).length ≤ 1000) (h : Mk vw H0 te σ (.str a)) : Mk vw H0 (tOp rMulS te (tC (.int (n : Int)))) σ (.str (strRep a n)) := fun H Q s c =>
  h H _ s fun H1 x s1 t1 => by
    cases t1 with
    | str hz => exact ⟨a, n, rfl, rfl, h1, hz, h2, h3, by rw [sizeLine_eq]; omega, c H1 _ s1 (.str hl)⟩
end
end Kin
namespace K19
open PySem PySem.Spec PyProof.Rows L2 Kin
abbrev refD (j : Nat) : PyData := .tuple [.str "refused", .int (j : Nat)]
abbrev refT (j : Nat) : TE := tTup (tCons (tC (.str "refused")) (tCons (tC (.int (j : Nat))) tNil))
theorem dp_ref {K : PySem.W.Frag} {H : Hp} {t : Addr} {j : Nat} (h : H t = some (.tup [.str "refused", .int (j : Nat)])) : Dp K H (.ref t) (refD j) := .tup (.inl (.inl h)) (.cons (.str _) (.cons (.int _) .nil))
theorem seq_if {c : TT} {t u : TS} {B : TS} {D : Ends} {σ : L2.St} {H : Hp} (h : c σ H fun b H1 => if b = true then t { D with nx := B D } σ H1 else u { D with nx := B D } σ H1) : tSeq (tIfS c t u) B D σ H := h
theorem if_go {c : TT} {t u : TS} {D : Ends} {σ : L2.St} {H : Hp} (h : c σ H fun b H1 => if b = true then t D σ H1 else u D σ H1) : tIfS c t u D σ H := h
section
variable {K : PySem.W.Frag} {σ : L2.St} {H : Hp} {Q : Bool → Hp → Prop} {j : Nat}
structure Fine (j : Nat) : Prop where
  e1 : (!PyData.eqv (refD j) (refD j)) = false
  s1 : SeqAt.shaped (refD j) = true
  e4 : (!PyData.eqv (.list (List.replicate 4 (refD j))) (.list (List.replicate 4 (refD j)))) = false
  s4 : SeqAt.shaped (.list (List.replicate 4 (refD j))) = true
/-- ask(..) != ('refused', j) -/
theorem one_ne {te : TE} (F : Fine j) (h : ∀ Q', Refd H Q' j → te σ H Q') (q : ∀ H', Same H H' → Q false H') : tTest (tOp (rNeD K) te (refT j)) σ H Q :=
  h _ fun H1 t s1 e1 => ⟨by show 2 ≤ sizeLine; decide, fun t2 n2 => ⟨refD j, refD j, dp_ref (same_upd n2 _ _ e1), dp_ref upd_same, F.s1, F.s1, false, by rw [F.e1], q _ (s1.trans (same_upd n2))⟩⟩
/-- a thing == ('refused', j): no -/
theorem eq_no {te : TE} {d : PyData} (F : Fine j) (hs : SeqAt.shaped d = true) (he : PyData.eqv d (refD j) = false) (h : ∀ Q' : VK, (∀ H' v, Same H H' → Td true H' v d → Q' v H') → te σ H Q') (q : ∀ H', Same H H' → Q false H') : tTest (tOp (rEqD K) te (refT j)) σ H Q :=
  h _ fun H1 v s1 tv => ⟨by show 2 ≤ sizeLine; decide, fun t2 n2 => ⟨d, refD j, (tv.mono (same_upd n2)).dp, dp_ref upd_same, hs, F.s1, false, by rw [he], q _ (s1.trans (same_upd n2))⟩⟩
theorem dp_reps {ts : List Addr} (h : ∀ u ∈ ts, H u = some (.tup [.str "refused", .int (j : Nat)])) : DpAll K H (ts.map V.ref) (List.replicate ts.length (refD j)) := by
  induction ts with
  | nil => exact .nil
  | cons t ts ih => exact .cons (dp_ref (h t List.mem_cons_self)) (ih fun u hu => h u (List.mem_cons_of_mem _ hu))
/-- [ask(.., x) for x in (..)] of a written tuple of four: all refused -/
theorem comp_four {ta : TA} {te : TE} {i : Nat} {ds : List PyData} {Q' : VK} (hds : ds.length = 4) (MA : MkA id H ta σ ds) (hw : ∀ x, wipe ((wipe σ [i]).set i x) [i] = wipe σ [i])
    (h : ∀ v d H' Q2, Same H H' → Td true H' v d → d ∈ ds → Refd H' Q2 j → te ((wipe σ [i]).set i (some v)) H' Q2)
    (q : ∀ H' l, Same H H' → (∀ H2, Same H' H2 → Dp K H2 (.ref l) (.list (List.replicate 4 (refD j)))) → Q' (.ref l) H') : tLc (iTup K (tTup ta)) (gName i) tYes te [i] σ H Q' := by
  refine MA H _ (Same.refl H) fun H1 xs s1 tx => ⟨small_line (by rw [tx.length, hds]; decide), fun t nt => ?_⟩
  have s2 : Same H (upd H1 t (.tup xs)) := s1.trans (same_upd nt)
  have et : upd H1 t (.tup xs) t = some (.tup xs) := upd_same
  have tx2 := TdAll.mono tx (same_upd (o := .tup xs) nt)
  have tx2 : TdAll true (upd H1 t (.tup xs)) xs ds := tx2
  generalize upd H1 t (.tup xs) = H2 at s2 et tx2 ⊢
  have hS : ∀ H', Same H2 H' → SqT K H' t xs := fun H' s => .inl (.inl (s _ _ et))
  have hl := tx2.length
  refine ⟨t, rfl, ⟨_, hS _ (Same.refl _)⟩, fun D nD => ?_⟩
  refine lc_gen (walk_tup (K := K) (a := t) (xs := xs)) (PY := fun _ y H' => ∃ u, y = .ref u ∧ H' u = some (.tup [.str "refused", .int (j : Nat)])) (by omega) (fun _ _ _ _ ⟨u, e1, e2⟩ s => ⟨u, e1, s _ _ e2⟩) nD (fun H' s => hS H' s) ?_ ?_
  · rintro k v H3 H3' hk s3 ⟨acc, eD⟩ ⟨rfl, ev⟩ Q2 hq
    obtain ⟨d, ed, td⟩ := tx2.get ev
    refine ⟨hw _, h v d _ _ (s2.trans s3) (td.mono s3) (List.mem_of_getElem? ed) fun H4 u s4 e4 => hq _ _ s4 ⟨u, rfl, hide_at (fun z => ?_) e4⟩⟩
    rw [z, s4 _ _ eD] at e4
    cases e4
  · intro H3 ys s3 eD hys hrow
    have ex : ∀ (y : V), y ∈ ys → ∃ t, y = .ref t ∧ H3 t = some (.tup [.str "refused", .int (j : Nat)]) := fun y hy => by
      obtain ⟨i, hi⟩ := List.getElem?_of_mem hy
      obtain ⟨u, e1, e2⟩ := hrow i y hi
      exact ⟨u, e1, hide_sub _ _ e2⟩
    obtain ⟨ts, hts, hr⟩ : ∃ ts : List Addr, ys = ts.map V.ref ∧ ∀ u ∈ ts, H3 u = some (.tup [.str "refused", .int (j : Nat)]) := by
      clear hrow hys eD
      induction ys with
      | nil => exact ⟨[], rfl, fun u h => by cases h⟩
      | cons y ys ih =>
        obtain ⟨t, rfl, e⟩ := ex y List.mem_cons_self
        obtain ⟨ts, rfl, hr⟩ := ih fun z hz => ex z (List.mem_cons_of_mem _ hz)
        refine ⟨t :: ts, rfl, fun u hu => ?_⟩
        rcases List.mem_cons.mp hu with rfl | hu
        · exact e
        · exact hr u hu
    subst hts
    rw [List.length_map, hl, hds] at hys
    refine q H3 D (s2.trans s3) fun H4 s4 => ?_
    have := dp_reps (K := K) (j := j) (H := H4) (ts := ts) fun u hu => s4 _ _ (hr u hu)
    rw [hys] at this
    exact .lst (.inl (.inl (s4 _ _ eD))) this
theorem rep_four {x : V} {R : V → V → Hp → VK → Prop} {Qe : VK} (F : Fine j) (q : ∀ H' y, Same H H' → Dp K H' y (.list (List.replicate 4 (refD j))) → R x y H' Qe) : (tOp rRep (tLst (tCons (refT j) tNil)) (tC (.int 4))) σ H fun y H2 => R x y H2 Qe := by
  refine ⟨by show 2 ≤ sizeLine; decide, fun t nt => ⟨by show 1 ≤ sizeLine; decide, fun l nl => ?_⟩⟩
  refine ⟨l, 4, [.ref t], rfl, rfl, upd_same, by decide, by decide, by show 1 * 4 ≤ sizeLine; decide, fun p np => ?_⟩
  have s1 : Same H (upd H t (.tup [.str "refused", .int (j : Nat)])) := same_upd nt
  have s2 := s1.trans (same_upd (o := .lst [V.ref t]) nl)
  have e1 : upd (upd (upd H t (.tup [.str "refused", .int (j : Nat)])) l (.lst [V.ref t])) p (.lst ([t, t, t, t].map V.ref)) t = some (.tup [.str "refused", .int (j : Nat)]) := same_upd np _ _ (same_upd nl _ _ upd_same)
  have e2 : upd (upd (upd H t (.tup [.str "refused", .int (j : Nat)])) l (.lst [V.ref t])) p (.lst ([t, t, t, t].map V.ref)) p = some (.lst ([t, t, t, t].map V.ref)) := upd_same
  refine q _ (.ref p) (s2.trans (same_upd np)) (.lst (.inl (.inl e2)) (dp_reps (ts := [t, t, t, t]) fun u hu => ?_))
  simp only [List.mem_cons, List.not_mem_nil, or_false, or_self] at hu
  subst hu
  exact e1
end
theorem fine0 : Fine 0 := ⟨by decide +kernel, by decide +kernel, by decide +kernel, by decide +kernel⟩
theorem fine5 : Fine 5 := ⟨by decide +kernel, by decide +kernel, by decide +kernel, by decide +kernel⟩
theorem fine13 : Fine 13 := ⟨by decide +kernel, by decide +kernel, by decide +kernel, by decide +kernel⟩
/-! ### the law's texts -/
def good (b : Bool) : Str := if b then "ab 0 0 0 0\n" else "- 0 0 0 0\n"
def b0 (b : Bool) : List PyData := [.none, .str "", .str "\n", .str "he 0 she 0", .str "he 0 she 0\n", .str ("he 0 she 0\n" ++ cutS (good b) none (some (-1)))]
def b1 (b : Bool) : List PyData := [.str (("he 0 she 0\n" : Str) ++ good b ++ ("\n" : Str)), .str (("she 0 he 0\n" : Str) ++ good b), .str (("he 1 she 0\n" : Str) ++ good b)]
def b2 (b : Bool) : List PyData := [.str (("he 0 she 00\n" : Str) ++ good b), .str (("he  0 she 0\n" : Str) ++ good b), .str (("he 0 she 0 \n" : Str) ++ good b)]
def b3 : List PyData := [.str "he 0 she 0\nab 0 0 0\n", .str "he 0 she 0\nab 0 0 0 0 0\n", .int 5]
def b4 : List PyData := [.str "he 0 she 0\nAB 0 0 0 0\n", .str "he 0 she 0\n 0 0 0 0\n", .str "he 0 she 0\nab 0 0 0 1\n"]
def b5 : List PyData := [.str "he 0 she 0\nab 0 0 0 -\n", .str "he 0 she 0\n-- 0 0 0 0\n"]
def b6 (b : Bool) : List PyData := [.str (("he 0 she 0\n" : Str) ++ strRep (good b) 9), .str "he 0 she 0\nabcdefghi 0 0 0 0\n", .list [.str "he"]]
def b7 (b : Bool) : List PyData := [.str (("he 0 she 0\n" : Str) ++ ("ab 0 0 0 +0\n" : Str)), .str (("he 0 she\n" : Str) ++ good b), .str (("he a she 0\n" : Str) ++ good b)]
theorem bad_no : ∀ b : Bool, (b0 b ++ b1 b ++ b2 b ++ b3 ++ b4 ++ b5 ++ b6 b ++ b7 b).all (fun d => !okS d) = true := by decide +kernel
def l0 : List PyData := [.none, .str "", .str "\n", .str "a he - -", .str "a he - -\n\n", .str "a he -\n", .str "a he - - -\n", .str "A he - -\n"]
def l1 : List PyData := [.str "a it - -\n", .str "a he b -\n", .str "a he - -\na he - -\n", .int 5]
def l2 : List PyData := [.str "a  he - -\n", .str "a he -  -\n", .str " a he - -\n", .str "- he - -\n", .str "a he - -\nb she - a\n"]
def l3 : List PyData := [.str "b she a -\na he - -\n", .str "a he a -\n", .str "a he -- -\n"]
theorem lines_no : (l0 ++ l1 ++ l2 ++ l3).all (fun d => !okF d) = true := by decide +kernel
def nm (k : Nat) : Str := ⟨#[("abcdefghij" : Str).cps.toList.getD (k % 10) 0]⟩ ++ ⟨#[("abcde" : Str).cps.toList.getD (k / 10) 0]⟩
def nms (n : Nat) : List Str := (List.range n).map nm
def nmText (n : Nat) : Str := Txt.join "" ((nms n).map fun z => z ++ (" he - -\n" : Str))
def nmRows (n : Nat) : List (List Str) := (nms n).map fun z => [z, Str.ofString "he", Str.ofString "-", Str.ofString "-"]
theorem nm_text (z : Str) : z ++ Str.ofString " he - -\n" = Txt.join " " [z, Str.ofString "he", Str.ofString "-", Str.ofString "-"] ++ Str.ofString "\n" := by
  refine TL.ext_tl ?_
  have h1 : TL.tl (Str.ofString "\n") = [10] := by decide +kernel
  have h2 : TL.tl (Str.ofString " ") = [32] := by decide +kernel
  have h3 : TL.tl (Str.ofString " he - -\n") = [32] ++ (TL.tl (Str.ofString "he") ++ ([32] ++ (TL.tl (Str.ofString "-") ++ ([32] ++ TL.tl (Str.ofString "-"))))) ++ [10] := by decide +kernel
  rw [TL.tl_append, TL.tl_append, tl_joinT, h1, h2, h3]
  show _ = (TL.tl z ++ ([32] ++ (TL.tl (Str.ofString "he") ++ ([32] ++ (TL.tl (Str.ofString "-") ++ ([32] ++ TL.tl (Str.ofString "-"))))))) ++ [10]
  simp only [List.append_assoc]
theorem nm_lines (n : Nat) : nmText n = linesTxt (nmRows n) := by
  unfold nmText linesTxt nmRows
  congr 1
  rw [List.map_map]
  exact List.map_congr_left fun z _ => nm_text z
theorem nm_clean : ∀ z ∈ nms 41, z.cps.toList.all letC = true := by decide +kernel
theorem nm_back {n : Nat} (h : ∀ z ∈ nms n, z.cps.toList.all letC = true) : lnsOf (nmText n) = nmRows n := by
  rw [nm_lines]
  refine lines_back fun ws hw => ?_
  obtain ⟨z, hz, rfl⟩ := List.mem_map.mp hw
  refine ⟨List.cons_ne_nil _ _, fun w hw => ?_⟩
  simp only [List.mem_cons, List.not_mem_nil, or_false] at hw
  rcases hw with rfl | rfl | rfl | rfl
  · exact clean_letters (h _ hz)
  · unfold cleanW; decide +kernel
  · exact clean_dash
  · exact clean_dash
theorem nm_clean40 : ∀ z ∈ nms 40, z.cps.toList.all letC = true := by decide +kernel
def d40 : PyData := .tuple ((nmRows 40).map persR)
theorem d40_fam : famD d40 = true := by decide +kernel
theorem d40_rows : ((nmRows 40).map persR).map persW = nmRows 40 := by decide +kernel
theorem nm40r : familyR (nmText 40) = d40 := by
  unfold familyR d40
  rw [nm_back nm_clean40]
theorem nm40 : okF (.str (nmText 40)) = true := by
  show (famD (familyR (nmText 40)) && decide (familyW (familyR (nmText 40)) = nmText 40)) = true
  have e : familyW d40 = nmText 40 := by
    show linesTxt (((nmRows 40).map persR).map persW) = _
    rw [d40_rows, nm_lines]
  rw [nm40r, d40_fam, e, decide_eq_true rfl]
  rfl
theorem nm40l' : (lnsOf (nmText 40)).length = 40 := by
  rw [nm_back nm_clean40]
  decide +kernel
theorem nm41 : okF (.str (nmText 41)) = false := by
  show (famD (familyR (nmText 41)) && decide (familyW (familyR (nmText 41)) = nmText 41)) = false
  have e : famD (familyR (nmText 41)) = false := by
    show (decide (1 ≤ ((lnsOf (nmText 41)).map persR).length) && decide (((lnsOf (nmText 41)).map persR).length ≤ 40) && famGo [] ((lnsOf (nmText 41)).map persR)) = false
    have hl : ((lnsOf (nmText 41)).map persR).length = 41 := by
      rw [nm_back nm_clean]
      decide +kernel
    rw [hl]
    rfl
  rw [e]
  rfl
theorem good_ok : ∀ b : Bool, okS (.str (("he 0 she 0\n" : Str) ++ good b)) = true ∧ SeqAt.shaped (speechR (("he 0 she 0\n" : Str) ++ good b)) = true ∧ PyData.eqv (speechR (("he 0 she 0\n" : Str) ++ good b)) (refD 13) = false ∧ (("he 0 she 0\n" : Str) ++ good b).length ≤ 1000 := by decide +kernel
def spLaw (K : PySem.W.Frag) : Sp := fun vs H Q _ => ∃ (a : Addr) (ns : List Int), vs = [.ref a] ∧ SqL K H a (ns.map V.int) ∧ ns.length ≤ 63 ∧ ∀ H', Q (.bl true) H'
end K19

set_option maxHeartbeats 8000000
namespace K19
open PySem PySem.Spec PyProof.Rows L2 Kin
theorem nm_small {n i : Nat} {z : Str} (h : (nms n)[i]? = some z) : z.length + (" he - -\n" : Str).length ≤ sizeLine := by
  have hm := List.mem_of_getElem? h
  obtain ⟨k, _, rfl⟩ := List.mem_map.mp hm
  have e1 : (nm k).length = 2 := by
    unfold nm
    show (#[_] ++ #[_]).size = 2
    rfl
  have e2 : (" he - -\n" : Str).length = 8 := by decide +kernel
  rw [e1, e2, sizeLine_eq]
  decide
section
variable {P : Program} {w : World} {K : PySem.W.Frag} {mg : Str → Option Value} {base : Heap}
theorem ok_law {f : Addr} {fd : FuncData} (T : Txt K mg) (G_law_ask : FnOk P w K mg base CX0 7 T.a_law_ask T.f_law_ask ["_law_what", "_law_thing"] sp_law_ask) (F : Fun K "law" "law" s_law f fd) :
    FnOk P w K mg base CX0 8 f fd ["_law_script"] (spLaw K) := by
  have G_law_pick : FnOk P w K mg base CX0 2 T.a_law_pick T.f_law_pick ["_law_script", "_law_town", "_law_some"] (sp_pick K) := ok_pick T
  refine F.ok sc_law (fun vs H Q E h => ?_) (fun cdv A outer s H vs Q E hr h => ?_)
  · obtain ⟨a, ns, rfl, _⟩ := h
    rfl
  · obtain ⟨a, ns, rfl, hS, hlen, q⟩ := h
    refine ⟨_, (pss_cons (ps_set (i := 1) sc_law.nd rfl (Or.inl rfl) (pe_lst (pa_cons pe_int (pa_cons pe_int pa_nil))))
      (pss_cons (ps_set (i := 2) sc_law.nd rfl (Or.inl rfl) (pe_call G_law_pick (hr.mono (by decide)) rfl T.d_law_pick.g T.d_law_pick.F.kp T.d_law_pick.b .nil pass0 (pa_cons (pv 0) (pa_cons (pv 1) (pa_cons (pe_lst (pa_cons pe_str (pa_cons pe_str pa_nil))) pa_nil)))))
      (pss_cons (ps_if (pt_cmpR (op_eqD hr.units) (pe_call G_law_ask (hr.mono (by decide)) rfl T.d_law_ask.g T.d_law_ask.F.kp T.d_law_ask.b .nil pass0 (pa_cons pe_int (pa_cons (pe_op op_addS pe_str (pv 2)) pa_nil))) (pe_tup (pa_cons pe_str (pa_cons pe_int pa_nil))) (nomark _))
        (pss_one (ps_ret pe_bl))
        pss_nil)
      (pss_cons (ps_set (i := 3) sc_law.nd rfl (Or.inl rfl) (pe_lst (pa_cons pe_non (pa_cons pe_str (pa_cons pe_str (pa_cons pe_str (pa_cons pe_str (pa_cons (pe_op op_addS pe_str (pe_slice sl_str (pv 2) po_none (po_some (pe_un un_neg pe_int)))) pa_nil))))))))
      (pss_cons (ps_expr (pe_bm PySem.F.plainAttrs_list PySem.F.slot_list_extend PySem.F.type_list_extend mt_extend (pv 3) (pa_cons (pe_lst (pa_cons (pe_op op_addS (pe_op op_addS pe_str (pv 2)) pe_str) (pa_cons (pe_op op_addS pe_str (pv 2)) (pa_cons (pe_op op_addS pe_str (pv 2)) pa_nil)))) pa_nil)))
      (pss_cons (ps_expr (pe_bm PySem.F.plainAttrs_list PySem.F.slot_list_extend PySem.F.type_list_extend mt_extend (pv 3) (pa_cons (pe_lst (pa_cons (pe_op op_addS pe_str (pv 2)) (pa_cons (pe_op op_addS pe_str (pv 2)) (pa_cons (pe_op op_addS pe_str (pv 2)) pa_nil)))) pa_nil)))
      (pss_cons (ps_expr (pe_bm PySem.F.plainAttrs_list PySem.F.slot_list_extend PySem.F.type_list_extend mt_extend (pv 3) (pa_cons (pe_lst (pa_cons pe_str (pa_cons pe_str (pa_cons pe_int pa_nil)))) pa_nil)))
      (pss_cons (ps_expr (pe_bm PySem.F.plainAttrs_list PySem.F.slot_list_extend PySem.F.type_list_extend mt_extend (pv 3) (pa_cons (pe_lst (pa_cons pe_str (pa_cons pe_str (pa_cons pe_str pa_nil)))) pa_nil)))
      (pss_cons (ps_expr (pe_bm PySem.F.plainAttrs_list PySem.F.slot_list_extend PySem.F.type_list_extend mt_extend (pv 3) (pa_cons (pe_lst (pa_cons pe_str (pa_cons pe_str pa_nil))) pa_nil)))
      (pss_cons (ps_expr (pe_bm PySem.F.plainAttrs_list PySem.F.slot_list_extend PySem.F.type_list_extend mt_extend (pv 3) (pa_cons (pe_lst (pa_cons (pe_op op_addS pe_str (pe_op op_mulS1 (pv 2) pe_int)) (pa_cons pe_str (pa_cons (pe_lst (pa_cons pe_str pa_nil)) pa_nil)))) pa_nil)))
      (pss_cons (ps_expr (pe_bm PySem.F.plainAttrs_list PySem.F.slot_list_extend PySem.F.type_list_extend mt_extend (pv 3) (pa_cons (pe_lst (pa_cons (pe_op op_addS pe_str pe_str) (pa_cons (pe_op op_addS pe_str (pv 2)) (pa_cons (pe_op op_addS pe_str (pv 2)) pa_nil)))) pa_nil)))
      (pss_cons (ps_for PassesOwn.never rfl (pi_list (pv 3)) (pg_name (i := 4) sc_law.nd rfl (Or.inl rfl))
        (pss_one (ps_if (pt_cmpR (op_neD hr.units) (pe_call G_law_ask (hr.mono (by decide)) rfl T.d_law_ask.g T.d_law_ask.F.kp T.d_law_ask.b .nil pass0 (pa_cons pe_int (pa_cons (pv 4) pa_nil))) (pe_tup (pa_cons pe_str (pa_cons pe_int pa_nil))) (nomark _))
          (pss_one (ps_ret pe_bl))
          pss_nil)))
      (pss_cons (ps_set (i := 5) sc_law.nd rfl (Or.inl rfl) (pe_lst (pa_cons pe_non (pa_cons pe_str (pa_cons pe_str (pa_cons pe_str (pa_cons pe_str (pa_cons pe_str (pa_cons pe_str (pa_cons pe_str pa_nil))))))))))
      (pss_cons (ps_expr (pe_bm PySem.F.plainAttrs_list PySem.F.slot_list_extend PySem.F.type_list_extend mt_extend (pv 5) (pa_cons (pe_lst (pa_cons pe_str (pa_cons pe_str (pa_cons pe_str (pa_cons pe_int pa_nil))))) pa_nil)))
      (pss_cons (ps_expr (pe_bm PySem.F.plainAttrs_list PySem.F.slot_list_extend PySem.F.type_list_extend mt_extend (pv 5) (pa_cons (pe_lst (pa_cons pe_str (pa_cons pe_str (pa_cons pe_str (pa_cons pe_str (pa_cons pe_str pa_nil)))))) pa_nil)))
      (pss_cons (ps_expr (pe_bm PySem.F.plainAttrs_list PySem.F.slot_list_extend PySem.F.type_list_extend mt_extend (pv 5) (pa_cons (pe_lst (pa_cons pe_str (pa_cons pe_str (pa_cons pe_str pa_nil)))) pa_nil)))
      (pss_cons (ps_for PassesOwn.never rfl (pi_list (pv 5)) (pg_name (i := 4) sc_law.nd rfl (Or.inl rfl))
        (pss_one (ps_if (pt_cmpR (op_neD hr.units) (pe_call G_law_ask (hr.mono (by decide)) rfl T.d_law_ask.g T.d_law_ask.F.kp T.d_law_ask.b .nil pass0 (pa_cons pe_int (pa_cons (pv 4) pa_nil))) (pe_tup (pa_cons pe_str (pa_cons pe_int pa_nil))) (nomark _))
          (pss_one (ps_ret pe_bl))
          pss_nil)))
      (pss_cons (ps_setLc (i := 6) (own := [("_law_k", 7)]) (g := gName 7) (tt := tYes) rfl sc_law.nd rfl rfl (sw_true rfl rfl rfl (by decide +kernel)) (pi_range1 (by rfl) T.n_range (pa_cons pe_int pa_nil)) (blkOk_by (N := N_law) (sc := defScope s_law) (by decide +kernel)) (fun _ _ _ _ _ => pg_name (i := 7) sc_law.nd rfl (Or.inl rfl)) (fun _ _ _ _ _ => pts_nil) (fun _ _ _ _ _ => (pe_op op_addS (pe_ix ix_str pe_str (pe_op op_mod (pv 7) pe_int) (fun _ _ => rfl)) (pe_ix ix_str pe_str (pe_op op_fdiv (pv 7) pe_int) (fun _ _ => rfl)))))
      (pss_cons (ps_if (pt_cmpR (op_neD hr.units) (pe_call G_law_ask (hr.mono (by decide)) rfl T.d_law_ask.g T.d_law_ask.F.kp T.d_law_ask.b .nil pass0 (pa_cons pe_int (pa_cons (pe_m1 (r := rJoinK K) PySem.F.slot_str_join PySem.F.type_str_join mt_join pe_str ((pe_lc (own := [("_law_name", 9)]) (g := gName 9) (tt := tYes) rfl sc_law.nd (pi_list (pv 6)) (blkOk_by (N := N_law) (sc := defScope s_law) (by decide +kernel)) (fun _ _ _ _ _ => pg_name (i := 9) sc_law.nd rfl (Or.inl rfl)) (fun _ _ _ _ _ => pts_nil) (fun _ _ _ _ _ => (pe_op op_addS (pv 9) pe_str))))) pa_nil))) (pe_tup (pa_cons pe_str (pa_cons pe_int pa_nil))) (nomark _))
        (pss_one (ps_ret pe_bl))
        pss_nil)
      (pss_cons (ps_if (pt_cmpR op_ne (pe_callB call_len_seq (by rfl) T.n_len boot_len (pa_cons (pe_call G_law_ask (hr.mono (by decide)) rfl T.d_law_ask.g T.d_law_ask.F.kp T.d_law_ask.b .nil pass0 (pa_cons pe_int (pa_cons (pe_m1 (r := rJoinK K) PySem.F.slot_str_join PySem.F.type_str_join mt_join pe_str ((pe_lc (own := [("_law_name", 9)]) (g := gName 9) (tt := tYes) rfl sc_law.nd (pi_list (pe_slice sl_list (pv 6) po_none (po_some pe_int))) (blkOk_by (N := N_law) (sc := defScope s_law) (by decide +kernel)) (fun _ _ _ _ _ => pg_name (i := 9) sc_law.nd rfl (Or.inl rfl)) (fun _ _ _ _ _ => pts_nil) (fun _ _ _ _ _ => (pe_op op_addS (pv 9) pe_str))))) pa_nil))) pa_nil)) pe_int (nomark _))
        (pss_one (ps_ret pe_bl))
        pss_nil)
      (pss_cons (ps_if (pt_cmpR (op_neD hr.units) (pe_lc (own := [("_law_one", 8)]) (g := gName 8) (tt := tYes) rfl sc_law.nd (pi_tup (pe_tup (pa_cons pe_non (pa_cons (pe_tup pa_nil) (pa_cons (pe_tup (pa_cons pe_int (pa_cons pe_int (pa_cons (pe_tup pa_nil) pa_nil)))) (pa_cons pe_str pa_nil)))))) (blkOk_by (N := N_law) (sc := defScope s_law) (by decide +kernel)) (fun _ _ _ _ _ => pg_name (i := 8) sc_law.nd rfl (Or.inl rfl)) (fun _ _ _ _ _ => pts_nil) (fun _ _ _ _ _ => (pe_call G_law_ask (hr.mono (by decide)) rfl T.d_law_ask.g T.d_law_ask.F.kp T.d_law_ask.b .nil pass0 (pa_cons pe_int (pa_cons (pv 8) pa_nil))))) (pe_op op_rep (pe_lst (pa_cons (pe_tup (pa_cons pe_str (pa_cons pe_int pa_nil))) pa_nil)) pe_int) (nomark _))
        (pss_one (ps_ret pe_bl))
        pss_nil)
      (pss_one (ps_ret (pe_cmpR (op_eqD hr.units) (pe_lc (own := [("_law_one", 8)]) (g := gName 8) (tt := tYes) rfl sc_law.nd (pi_tup (pe_tup (pa_cons pe_non (pa_cons (pe_tup pa_nil) (pa_cons (pe_lst (pa_cons (pe_tup (pa_cons pe_str (pa_cons pe_str (pa_cons pe_non (pa_cons pe_non pa_nil))))) pa_nil)) (pa_cons pe_str pa_nil)))))) (blkOk_by (N := N_law) (sc := defScope s_law) (by decide +kernel)) (fun _ _ _ _ _ => pg_name (i := 8) sc_law.nd rfl (Or.inl rfl)) (fun _ _ _ _ _ => pts_nil) (fun _ _ _ _ _ => (pe_call G_law_ask (hr.mono (by decide)) rfl T.d_law_ask.g T.d_law_ask.F.kp T.d_law_ask.b .nil pass0 (pa_cons pe_int (pa_cons (pv 8) pa_nil))))) (pe_op op_rep (pe_lst (pa_cons (pe_tup (pa_cons pe_str (pa_cons pe_int pa_nil))) pa_nil)) pe_int) (nomark _))))))))))))))))))))))))), ?_⟩
    -- town = [0, 0]
    refine ⟨by show 2 ≤ sizeLine; decide, fun p np => ?_⟩
    have hT1 : TownAt (upd H p (.lst [V.int 0, V.int 0])) p := ⟨0, 0, by decide, upd_same⟩
    have hB1 : Stb K (upd H p (.lst [V.int 0, V.int 0])) p a (ns.map V.int) := stb_new hS np
    clear hS np
    generalize upd H p (.lst [V.int 0, V.int 0]) = H1 at hT1 hB1 ⊢
    -- good
    refine ⟨_, rfl, _, rfl, by show 2 ≤ sizeLine; decide, fun l nl => ?_⟩
    have c2 : Same H1 (upd H1 l (.lst [V.str "ab 0 0 0 0\n", V.str "- 0 0 0 0\n"])) := same_upd nl
    refine ⟨a, p, l, ns, [V.str "ab 0 0 0 0\n", V.str "- 0 0 0 0\n"], rfl, hB1.mono c2.but, hlen, hT1.but c2, .inl (.inl upd_same), (hT1.lt nl).symm, List.cons_ne_nil _ _, by show 2 ≤ 1000; decide, fun H2 x hx T2 _ => ?_⟩
    have hg : ∃ gb : Bool, x = .str (good gb) := by
      simp only [List.mem_cons, List.not_mem_nil, or_false] at hx
      rcases hx with rfl | rfl
      · exact ⟨true, rfl⟩
      · exact ⟨false, rfl⟩
    obtain ⟨gb, rfl⟩ := hg
    clear hx c2 nl hB1 hT1 T2
    have hgl : (good gb).length ≤ 1000 := by cases gb <;> decide +kernel
    -- ask(2, ..) == ('refused', 13)
    obtain ⟨g1, g2, g3, g4⟩ := good_ok gb
    dsimp only [gName]
    refine seq_if ?_
    refine eq_no (d := speechR (("he 0 she 0\n" : Str) ++ good gb)) fine13 g2 g3 (fun Q' r => ?_) fun H3 s3 => ?_
    · refine ⟨_, rfl, _, _, rfl, rfl, ?_, 2, _, .str (("he 0 she 0\n" : Str) ++ good gb), rfl, by decide, .str g4, fun H' s' => ⟨fun _ v tv => r H' v s' tv, fun h => Bool.noConfusion (h.symm.trans g1)⟩⟩
      cases gb <;> decide +kernel
    refine iteF ?_
    clear s3 g1 g2 g3 g4
    -- bad
    try dsimp only [tNext, gName]
    refine seq_asg ?_
    refine lst_go (ds := b0 gb) ?_ (by cases gb <;> decide +kernel) fun H4 l xs4 s4 nl e4 A4 => ?_
    · repeat (first | exact mk_non | exact mk_bl | exact mk_int | exact mk_str (by decide +kernel) | exact mkA_nil | exact mk_var vw_id rfl (.str hgl) | refine mkA_cons vw_id ?_ ?_ | refine mk_tup vw_id (by decide +kernel) ?_ | refine mk_lst vw_id (by decide +kernel) ?_ | refine mk_addS (by cases gb <;> decide +kernel) ?_ ?_ | refine mk_cutS (by cases gb <;> decide +kernel) ?_ | refine mk_mulS (n := 9) (by cases gb <;> decide +kernel) (by decide) (by decide) (by cases gb <;> decide +kernel) ?_)
    refine ⟨_, rfl, .inl ⟨rfl, _, .inl (.inl e4)⟩, ?_⟩
    refine ext_mk (es := b1 gb) e4 A4 (by cases gb <;> decide +kernel) ?_ fun H5 xs5 c5 e5 A5 => ?_
    · repeat (first | exact mk_non | exact mk_bl | exact mk_int | exact mk_str (by decide +kernel) | exact mkA_nil | exact mk_var (vw_hide e4) rfl (.str hgl) | refine mkA_cons (vw_hide e4) ?_ ?_ | refine mk_tup (vw_hide e4) (by decide +kernel) ?_ | refine mk_lst (vw_hide e4) (by decide +kernel) ?_ | refine mk_addS (by cases gb <;> decide +kernel) ?_ ?_ | refine mk_cutS (by cases gb <;> decide +kernel) ?_ | refine mk_mulS (n := 9) (by cases gb <;> decide +kernel) (by decide) (by decide) (by cases gb <;> decide +kernel) ?_)
    refine ⟨_, rfl, .inl ⟨rfl, _, .inl (.inl e5)⟩, ?_⟩
    refine ext_mk (es := b2 gb) e5 A5 (by cases gb <;> decide +kernel) ?_ fun H6 xs6 c6 e6 A6 => ?_
    · repeat (first | exact mk_non | exact mk_bl | exact mk_int | exact mk_str (by decide +kernel) | exact mkA_nil | exact mk_var (vw_hide e5) rfl (.str hgl) | refine mkA_cons (vw_hide e5) ?_ ?_ | refine mk_tup (vw_hide e5) (by decide +kernel) ?_ | refine mk_lst (vw_hide e5) (by decide +kernel) ?_ | refine mk_addS (by cases gb <;> decide +kernel) ?_ ?_ | refine mk_cutS (by cases gb <;> decide +kernel) ?_ | refine mk_mulS (n := 9) (by cases gb <;> decide +kernel) (by decide) (by decide) (by cases gb <;> decide +kernel) ?_)
    refine ⟨_, rfl, .inl ⟨rfl, _, .inl (.inl e6)⟩, ?_⟩
    refine ext_mk (es := b3) e6 A6 (by cases gb <;> decide +kernel) ?_ fun H7 xs7 c7 e7 A7 => ?_
    · repeat (first | exact mk_non | exact mk_bl | exact mk_int | exact mk_str (by decide +kernel) | exact mkA_nil | exact mk_var (vw_hide e6) rfl (.str hgl) | refine mkA_cons (vw_hide e6) ?_ ?_ | refine mk_tup (vw_hide e6) (by decide +kernel) ?_ | refine mk_lst (vw_hide e6) (by decide +kernel) ?_ | refine mk_addS (by cases gb <;> decide +kernel) ?_ ?_ | refine mk_cutS (by cases gb <;> decide +kernel) ?_ | refine mk_mulS (n := 9) (by cases gb <;> decide +kernel) (by decide) (by decide) (by cases gb <;> decide +kernel) ?_)
    refine ⟨_, rfl, .inl ⟨rfl, _, .inl (.inl e7)⟩, ?_⟩
    refine ext_mk (es := b4) e7 A7 (by cases gb <;> decide +kernel) ?_ fun H8 xs8 c8 e8 A8 => ?_
    · repeat (first | exact mk_non | exact mk_bl | exact mk_int | exact mk_str (by decide +kernel) | exact mkA_nil | exact mk_var (vw_hide e7) rfl (.str hgl) | refine mkA_cons (vw_hide e7) ?_ ?_ | refine mk_tup (vw_hide e7) (by decide +kernel) ?_ | refine mk_lst (vw_hide e7) (by decide +kernel) ?_ | refine mk_addS (by cases gb <;> decide +kernel) ?_ ?_ | refine mk_cutS (by cases gb <;> decide +kernel) ?_ | refine mk_mulS (n := 9) (by cases gb <;> decide +kernel) (by decide) (by decide) (by cases gb <;> decide +kernel) ?_)
    refine ⟨_, rfl, .inl ⟨rfl, _, .inl (.inl e8)⟩, ?_⟩
    refine ext_mk (es := b5) e8 A8 (by cases gb <;> decide +kernel) ?_ fun H9 xs9 c9 e9 A9 => ?_
    · repeat (first | exact mk_non | exact mk_bl | exact mk_int | exact mk_str (by decide +kernel) | exact mkA_nil | exact mk_var (vw_hide e8) rfl (.str hgl) | refine mkA_cons (vw_hide e8) ?_ ?_ | refine mk_tup (vw_hide e8) (by decide +kernel) ?_ | refine mk_lst (vw_hide e8) (by decide +kernel) ?_ | refine mk_addS (by cases gb <;> decide +kernel) ?_ ?_ | refine mk_cutS (by cases gb <;> decide +kernel) ?_ | refine mk_mulS (n := 9) (by cases gb <;> decide +kernel) (by decide) (by decide) (by cases gb <;> decide +kernel) ?_)
    refine ⟨_, rfl, .inl ⟨rfl, _, .inl (.inl e9)⟩, ?_⟩
    refine ext_mk (es := b6 gb) e9 A9 (by cases gb <;> decide +kernel) ?_ fun H10 xs10 c10 e10 A10 => ?_
    · repeat (first | exact mk_non | exact mk_bl | exact mk_int | exact mk_str (by decide +kernel) | exact mkA_nil | exact mk_var (vw_hide e9) rfl (.str hgl) | refine mkA_cons (vw_hide e9) ?_ ?_ | refine mk_tup (vw_hide e9) (by decide +kernel) ?_ | refine mk_lst (vw_hide e9) (by decide +kernel) ?_ | refine mk_addS (by cases gb <;> decide +kernel) ?_ ?_ | refine mk_cutS (by cases gb <;> decide +kernel) ?_ | refine mk_mulS (n := 9) (by cases gb <;> decide +kernel) (by decide) (by decide) (by cases gb <;> decide +kernel) ?_)
    refine ⟨_, rfl, .inl ⟨rfl, _, .inl (.inl e10)⟩, ?_⟩
    refine ext_mk (es := b7 gb) e10 A10 (by cases gb <;> decide +kernel) ?_ fun H11 xs11 c11 e11 A11 => ?_
    · repeat (first | exact mk_non | exact mk_bl | exact mk_int | exact mk_str (by decide +kernel) | exact mkA_nil | exact mk_var (vw_hide e10) rfl (.str hgl) | refine mkA_cons (vw_hide e10) ?_ ?_ | refine mk_tup (vw_hide e10) (by decide +kernel) ?_ | refine mk_lst (vw_hide e10) (by decide +kernel) ?_ | refine mk_addS (by cases gb <;> decide +kernel) ?_ ?_ | refine mk_cutS (by cases gb <;> decide +kernel) ?_ | refine mk_mulS (n := 9) (by cases gb <;> decide +kernel) (by decide) (by decide) (by cases gb <;> decide +kernel) ?_)
    have hall := bad_no gb
    have A := A11.mono hide_sub
    generalize b0 gb ++ b1 gb ++ b2 gb ++ b3 ++ b4 ++ b5 ++ b6 gb ++ b7 gb = ds at A hall
    -- for text in bad
    refine ⟨_, rfl, l, rfl, ⟨_, .inl (.inl e11)⟩, for_list (K := K) (a := l) (xs := xs11) (fun _ σ H' => Same H11 H' ∧ ∃ x4 : Option V, σ = [some (.ref a), some (.ref p), some (.str (good gb)), some (.ref l), x4, none, none, none, none, none]) ⟨Same.refl H11, _, rfl⟩ (fun _ _ _ _ z => .inl (.inl (z.1 _ _ e11))) ?_ ?_⟩
    · rintro i v σ G ev ⟨s1, x4, rfl⟩
      obtain ⟨d, ed, td⟩ := A.get ev
      have hd : okS d = false := by simpa using List.all_eq_true.mp hall d (List.mem_of_getElem? ed)
      refine if_go ?_
      refine one_ne fine13 (fun Q' r => ?_) fun G2 s2 => ?_
      · exact ⟨_, rfl, 2, v, d, rfl, by decide, td.mono s1, fun H' s' => ⟨fun h => Bool.noConfusion (h.symm.trans hd), fun _ => r.mono s'⟩⟩
      refine iteF ?_
      exact ⟨s1.trans s2, _, rfl⟩
    rintro σ J0 ⟨_, x4, rfl⟩
    -- lines
    try dsimp only [tNext, gName]
    refine seq_asg ?_
    refine lst_go (ds := l0) ?_ (by decide +kernel) fun J1 m ys1 _ _ f1 B1 => ?_
    · repeat (first | exact mk_non | exact mk_bl | exact mk_int | exact mk_str (by decide +kernel) | exact mkA_nil | exact mk_var vw_id rfl (.str hgl) | refine mkA_cons vw_id ?_ ?_ | refine mk_tup vw_id (by decide +kernel) ?_ | refine mk_lst vw_id (by decide +kernel) ?_ | refine mk_addS (by cases gb <;> decide +kernel) ?_ ?_ | refine mk_cutS (by cases gb <;> decide +kernel) ?_ | refine mk_mulS (n := 9) (by cases gb <;> decide +kernel) (by decide) (by decide) (by cases gb <;> decide +kernel) ?_)
    refine ⟨_, rfl, .inl ⟨rfl, _, .inl (.inl f1)⟩, ?_⟩
    refine ext_mk (es := l1) f1 B1 (by decide +kernel) ?_ fun J2 ys2 _ f2 B2 => ?_
    · repeat (first | exact mk_non | exact mk_bl | exact mk_int | exact mk_str (by decide +kernel) | exact mkA_nil | exact mk_var (vw_hide f1) rfl (.str hgl) | refine mkA_cons (vw_hide f1) ?_ ?_ | refine mk_tup (vw_hide f1) (by decide +kernel) ?_ | refine mk_lst (vw_hide f1) (by decide +kernel) ?_ | refine mk_addS (by cases gb <;> decide +kernel) ?_ ?_ | refine mk_cutS (by cases gb <;> decide +kernel) ?_ | refine mk_mulS (n := 9) (by cases gb <;> decide +kernel) (by decide) (by decide) (by cases gb <;> decide +kernel) ?_)
    refine ⟨_, rfl, .inl ⟨rfl, _, .inl (.inl f2)⟩, ?_⟩
    refine ext_mk (es := l2) f2 B2 (by decide +kernel) ?_ fun J3 ys3 _ f3 B3 => ?_
    · repeat (first | exact mk_non | exact mk_bl | exact mk_int | exact mk_str (by decide +kernel) | exact mkA_nil | exact mk_var (vw_hide f2) rfl (.str hgl) | refine mkA_cons (vw_hide f2) ?_ ?_ | refine mk_tup (vw_hide f2) (by decide +kernel) ?_ | refine mk_lst (vw_hide f2) (by decide +kernel) ?_ | refine mk_addS (by cases gb <;> decide +kernel) ?_ ?_ | refine mk_cutS (by cases gb <;> decide +kernel) ?_ | refine mk_mulS (n := 9) (by cases gb <;> decide +kernel) (by decide) (by decide) (by cases gb <;> decide +kernel) ?_)
    refine ⟨_, rfl, .inl ⟨rfl, _, .inl (.inl f3)⟩, ?_⟩
    refine ext_mk (es := l3) f3 B3 (by decide +kernel) ?_ fun J4 ys4 _ f4 B4 => ?_
    · repeat (first | exact mk_non | exact mk_bl | exact mk_int | exact mk_str (by decide +kernel) | exact mkA_nil | exact mk_var (vw_hide f3) rfl (.str hgl) | refine mkA_cons (vw_hide f3) ?_ ?_ | refine mk_tup (vw_hide f3) (by decide +kernel) ?_ | refine mk_lst (vw_hide f3) (by decide +kernel) ?_ | refine mk_addS (by cases gb <;> decide +kernel) ?_ ?_ | refine mk_cutS (by cases gb <;> decide +kernel) ?_ | refine mk_mulS (n := 9) (by cases gb <;> decide +kernel) (by decide) (by decide) (by cases gb <;> decide +kernel) ?_)
    have hall2 := lines_no
    have B := B4.mono hide_sub
    generalize l0 ++ l1 ++ l2 ++ l3 = es at B hall2
    refine ⟨_, rfl, m, rfl, ⟨_, .inl (.inl f4)⟩, for_list (K := K) (a := m) (xs := ys4) (fun _ σ H' => Same J4 H' ∧ ∃ x4 : Option V, σ = [some (.ref a), some (.ref p), some (.str (good gb)), some (.ref l), x4, some (.ref m), none, none, none, none]) ⟨Same.refl J4, _, rfl⟩ (fun _ _ _ _ z => .inl (.inl (z.1 _ _ f4))) ?_ ?_⟩
    · rintro i v σ G ev ⟨s1, x4, rfl⟩
      obtain ⟨d, ed, td⟩ := B.get ev
      have hd : okF d = false := by simpa using List.all_eq_true.mp hall2 d (List.mem_of_getElem? ed)
      refine if_go ?_
      refine one_ne fine13 (fun Q' r => ?_) fun G2 s2 => ?_
      · exact ⟨_, rfl, 3, v, d, rfl, by decide, td.mono s1, fun H' s' => ⟨fun h => Bool.noConfusion (h.symm.trans hd), fun _ => r.mono s'⟩⟩
      refine iteF ?_
      exact ⟨s1.trans s2, _, rfl⟩
    rintro σ N0 ⟨_, x4', rfl⟩
    -- names
    refine ⟨41, rfl, by decide, by decide, fun D nD => ?_⟩
    refine lc_strs walk_range (nms 41) (by decide +kernel) (by decide) nD (fun _ _ => trivial) ?_ ?_
    · rintro i v H5 H5' hi s5 ⟨rfl, ev⟩ Q' hq
      have hi : i < 41 := hi
      have ev : v = .int (i : Int) := ev.trans (by show V.int (0 + (i : Int)) = _; rw [Int.zero_add])
      subst ev
      have c1 : ("abcdefghij" : Str).cps.toList[i % 10]? = some (("abcdefghij" : Str).cps.toList.getD (i % 10) 0) := getD_some (by
        have : ("abcdefghij" : Str).cps.toList.length = 10 := by decide +kernel
        omega)
      have c2 : ("abcde" : Str).cps.toList[i / 10]? = some (("abcde" : Str).cps.toList.getD (i / 10) 0) := getD_some (by
        have : ("abcde" : Str).cps.toList.length = 5 := by decide +kernel
        omega)
      have d1 := atI_nat c1
      have d2 := atI_nat c2
      rw [show (((i % 10 : Nat) : Int)) = (i : Int) % 10 by omega] at d1
      rw [show (((i / 10 : Nat) : Int)) = (i : Int) / 10 by omega] at d2
      refine ⟨rfl, _, rfl, _, _, rfl, rfl, (by show (0 : Int) < 10; decide), _, _, _, rfl, rfl, by rw [sizeLine_eq]; decide +kernel, d1, ?_⟩
      refine ⟨_, rfl, _, _, rfl, rfl, ⟨by decide, by decide⟩, _, _, _, rfl, rfl, by rw [sizeLine_eq]; decide +kernel, d2, ?_⟩
      refine ⟨_, _, rfl, rfl, by show 1 + 1 ≤ sizeLine; decide, hq _ _ (Same.refl _) ?_⟩
      unfold nms
      rw [List.getElem?_map, List.getElem?_range hi]
      rfl
    intro N1 s6 eD
    clear s6 A A4 B B1 B2 B3 B4
    try dsimp only [tNext, gName]
    refine seq_if ?_
    refine one_ne fine13 (fun Q' r => ?_) fun N2 s7 => ?_
    · have hL : ∀ H', Same N1 H' → SqL K H' D ((nms 41).map V.str) := fun H' s => .inl (.inl (s _ _ eD))
      refine ⟨⟨_, rfl⟩, _, rfl, D, rfl, ⟨_, hL _ (Same.refl _)⟩, fun D2 nD2 => ?_⟩
      refine lc_strs (walk_list (K := K) (a := D) (xs := (nms 41).map V.str)) ((nms 41).map fun z => z ++ (" he - -\n" : Str)) (by rw [List.length_map, List.length_map]) (by rw [List.length_map]; decide +kernel) nD2 (fun H' s => hL H' s) ?_ ?_
      · rintro i v H5 H5' hi s5 ⟨rfl, ev⟩ Q2 hq
        rw [List.getElem?_map] at ev
        cases e : (nms 41)[i]? with
        | none => rw [e] at ev; cases ev
        | some z =>
          rw [e] at ev
          cases ev
          refine ⟨rfl, _, rfl, _, _, rfl, rfl, nm_small e, hq _ _ (Same.refl _) ?_⟩
          rw [List.getElem?_map, e]
          rfl
      · intro N3 s8 e8
        refine ⟨_, D2, _, rfl, rfl, .inl (.inl (.inl e8)), by decide +kernel, ?_⟩
        exact ⟨3, _, .str (nmText 41), rfl, by decide, .str (by decide +kernel), fun H' s' => ⟨fun h => Bool.noConfusion (h.symm.trans nm41), fun _ => (r.mono s8).mono s'⟩⟩
    refine iteF ?_
    try dsimp only [tNext, gName]
    refine seq_if ?_
    have eD2 := s7 _ _ eD
    refine ⟨⟨_, rfl⟩, _, rfl, 40, rfl, D, _, rfl, .inl (.inl eD2), fun p2 np2 => ?_⟩
    rw [show cutV ((nms 41).map V.str) none (some 40) = ((nms 41).take 40).map V.str from (cut_take (k := 40)).trans List.map_take.symm]
    rw [show (nms 41).take 40 = nms 40 by decide +kernel]
    have s9 : Same N2 (upd N2 p2 (.lst ((nms 40).map V.str))) := same_upd np2
    have e9 : upd N2 p2 (.lst ((nms 40).map V.str)) p2 = some (.lst ((nms 40).map V.str)) := upd_same
    generalize upd N2 p2 (.lst ((nms 40).map V.str)) = N4 at s9 e9 ⊢
    have hL : ∀ H', Same N4 H' → SqL K H' p2 ((nms 40).map V.str) := fun H' s => .inl (.inl (s _ _ e9))
    refine ⟨p2, rfl, ⟨_, hL _ (Same.refl _)⟩, fun D2 nD2 => ?_⟩
    refine lc_strs (walk_list (K := K) (a := p2) (xs := (nms 40).map V.str)) ((nms 40).map fun z => z ++ (" he - -\n" : Str)) (by rw [List.length_map, List.length_map]) (by rw [List.length_map]; decide +kernel) nD2 (fun H' s => hL H' s) ?_ ?_
    · rintro i v H5 H5' hi s5 ⟨rfl, ev⟩ Q2 hq
      rw [List.getElem?_map] at ev
      cases e : (nms 40)[i]? with
      | none => rw [e] at ev; cases ev
      | some z =>
        rw [e] at ev
        cases ev
        refine ⟨rfl, _, rfl, _, _, rfl, rfl, nm_small e, hq _ _ (Same.refl _) ?_⟩
        rw [List.getElem?_map, e]
        rfl
    intro N5 s10 e10
    refine ⟨_, D2, _, rfl, rfl, .inl (.inl (.inl e10)), by decide +kernel, ?_⟩
    refine ⟨3, _, .str (nmText 40), rfl, by decide, .str (by decide +kernel), fun N6 s11 => ⟨fun _ v tv => ?_, fun h => Bool.noConfusion (h.symm.trans nm40)⟩⟩
    have hn : (lnsOf (nmText 40)).length = 40 := nm40l' 
    cases tv with
    | @tup va xs _ ev nx rv =>
      have hxs : xs.length = 40 := by rw [rv.length, List.length_map, hn]
      refine ⟨va, xs, rfl, .inr (.inl (.inl ev)), rfl, _, rfl, ?_⟩
      rw [hxs]
      refine iteF ?_
      try dsimp only [tNext, gName]
      refine seq_if ?_
      dsimp only [tTest, tOp]
      refine comp_four (j := 5) (ds := [.none, .tuple [], .tuple [.int 0, .int 0, .tuple []], .str "ab"]) rfl ?_ (fun _ => rfl) (fun v d H' Q2 s td hd r => ?_) fun H' l s hdp => ?_
      · repeat (first | exact mk_non | exact mk_int | exact mk_str (by decide +kernel) | exact mkA_nil | refine mkA_cons vw_id ?_ ?_ | refine mk_tup vw_id (by decide +kernel) ?_ | refine mk_lst vw_id (by decide +kernel) ?_)
      · have hd : speechD d = false := by
          have := List.all_eq_true.mp (show ([.none, .tuple [], .tuple [.int 0, .int 0, .tuple []], .str "ab"] : List PyData).all (fun d => !speechD d) = true by decide +kernel) d hd
          simpa using this
        exact ⟨_, rfl, 0, v, d, rfl, by decide, td, fun H2 s2 => ⟨fun h => Bool.noConfusion (h.symm.trans hd), fun _ => r.mono s2⟩⟩
      refine rep_four (K := K) (R := rNeD K) fine5 fun H2 y s2 dy => ?_
      refine ⟨_, _, hdp H2 s2, dy, fine5.s4, fine5.s4, false, by rw [fine5.e4], ?_⟩
      refine iteF ?_
      dsimp only [tNext, tRet, tOp]
      refine comp_four (j := 0) (i := 8) (ds := [.none, .tuple [], .list [.tuple [.str "a", .str "he", .none, .none]], .str "a"]) rfl ?_ (fun _ => rfl) (fun v d H' Q2 s td hd r => ?_) fun H3 l2 s3 hdp2 => ?_
      · repeat (first | exact mk_non | exact mk_int | exact mk_str (by decide +kernel) | exact mkA_nil | refine mkA_cons vw_id ?_ ?_ | refine mk_tup vw_id (by decide +kernel) ?_ | refine mk_lst vw_id (by decide +kernel) ?_)
      · have hd : famD d = false := by
          have := List.all_eq_true.mp (show ([.none, .tuple [], .list [.tuple [.str "a", .str "he", .none, .none]], .str "a"] : List PyData).all (fun d => !famD d) = true by decide +kernel) d hd
          simpa using this
        exact ⟨_, rfl, 1, v, d, rfl, by decide, td, fun H2 s2 => ⟨fun h => Bool.noConfusion (h.symm.trans hd), fun _ => r.mono s2⟩⟩
      refine rep_four (K := K) (R := rEqD K) fine0 fun H4 y s4 dy => ?_
      refine ⟨_, _, hdp2 H4 s4, dy, fine0.s4, fine0.s4, ?_⟩
      have e4 : PyData.eqv (.list (List.replicate 4 (refD 0))) (.list (List.replicate 4 (refD 0))) = true := by decide +kernel
      rw [e4]
      exact q _
end
end K19

set_option maxHeartbeats 4000000
namespace K19
open PySem PySem.Spec PyProof.Rows L2 Kin
theorem all_mk {l : PySem.W.OpenLaw} {w : World} {K : PySem.W.Frag} {h : Heap} {mg : Str → Option Value} {fa f1 f2 f3 f4 f5 f6 f7 f8 f9 f10 f11 f12 f13 f14 f15 f16 f17 f18 f19 f20 f21 f22 f23 f24 f25 f26 C0 C1 C2 C3 C4 C5 C6 C7 C8 C9 C10 C11 C12 C13 aK ASEXES : Addr} (X : K.In h) (G : h.Ns mainGlobals mg) (hfa : mg "law" = some (.ref fa))
    {od1 an1 od2 an2 od3 an3 od4 an4 od5 an5 od6 an6 od7 an7 od8 an8 od9 an9 od10 an10 od11 an11 od12 an12 od13 an13 od14 an14 od15 an15 od16 an16 od17 an17 od18 an18 od19 an19 od20 an20 od21 an21 od22 an22 od23 an23 od24 an24 od25 an25 od26 an26 odSEXES : Option Addr} {sl1 sl2 sl3 sl4 sl5 sl6 sl7 sl8 sl9 sl10 sl11 sl12 sl13 sl14 sl15 sl16 sl17 sl18 sl19 sl20 sl21 sl22 sl23 sl24 sl25 sl26 slSEXES : Array (Option Value)}
    {oc1 kV1 dc1 pm1 cd1 ct1 oc2 kV2 dc2 pm2 cd2 ct2 oc3 kV3 dc3 pm3 cd3 ct3 oc4 kV4 dc4 pm4 cd4 ct4 oc5 kV5 dc5 pm5 cd5 ct5 oc6 kV6 dc6 pm6 cd6 ct6 oc7 kV7 dc7 pm7 cd7 ct7 oc8 kV8 dc8 pm8 cd8 ct8 oc9 kV9 dc9 pm9 cd9 ct9 oc10 kV10 dc10 pm10 cd10 ct10 oc11 kV11 dc11 pm11 cd11 ct11 oc12 kV12 dc12 pm12 cd12 ct12 oc13 kV13 dc13 pm13 cd13 ct13 oc14 kV14 dc14 pm14 cd14 ct14 oc15 kV15 dc15 pm15 cd15 ct15 oc16 kV16 dc16 pm16 cd16 ct16 oc17 kV17 dc17 pm17 cd17 ct17 oc18 kV18 dc18 pm18 cd18 ct18 oc19 kV19 dc19 pm19 cd19 ct19 oc20 kV20 dc20 pm20 cd20 ct20 oc21 kV21 dc21 pm21 cd21 ct21 oc22 kV22 dc22 pm22 cd22 ct22 oc23 kV23 dc23 pm23 cd23 ct23 oc24 kV24 dc24 pm24 cd24 ct24 oc25 kV25 dc25 pm25 cd25 ct25 oc26 kV26 dc26 pm26 cd26 ct26 : Value} {tk0 tk2 tk3 tk4 tk5 tk6 tk7 thSEXES0 thSEXES1 : Tok} {nnSEXES : Nat}
    (a1 : PySem.W.nsIn K mainGlobals "is_letters" = some (some (.ref f1))) (l1 : K.lookup f1 = some ⟨oc1, od1, .func (PySem.W.fnOf "is_letters" "is_letters" (defArgs s_is_letters) (defBody s_is_letters) (defScope s_is_letters) .none kV1 dc1 pm1 an1 cd1 ct1), sl1⟩) (c1 : PySem.W.codeIn K cd1 "is_letters" = true) (k1 : PySem.W.keepIn K (.ref f1) = true)
    (a2 : PySem.W.nsIn K mainGlobals "is_name" = some (some (.ref f2))) (l2 : K.lookup f2 = some ⟨oc2, od2, .func (PySem.W.fnOf "is_name" "is_name" (defArgs s_is_name) (defBody s_is_name) (defScope s_is_name) .none kV2 dc2 pm2 an2 cd2 ct2), sl2⟩) (c2 : PySem.W.codeIn K cd2 "is_name" = true) (k2 : PySem.W.keepIn K (.ref f2) = true)
    (a3 : PySem.W.nsIn K mainGlobals "is_sex" = some (some (.ref f3))) (l3 : K.lookup f3 = some ⟨oc3, od3, .func (PySem.W.fnOf "is_sex" "is_sex" (defArgs s_is_sex) (defBody s_is_sex) (defScope s_is_sex) .none kV3 dc3 pm3 an3 cd3 ct3), sl3⟩) (c3 : PySem.W.codeIn K cd3 "is_sex" = true) (k3 : PySem.W.keepIn K (.ref f3) = true)
    (a4 : PySem.W.nsIn K mainGlobals "is_person" = some (some (.ref f4))) (l4 : K.lookup f4 = some ⟨oc4, od4, .func (PySem.W.fnOf "is_person" "is_person" (defArgs s_is_person) (defBody s_is_person) (defScope s_is_person) .none kV4 dc4 pm4 an4 cd4 ct4), sl4⟩) (c4 : PySem.W.codeIn K cd4 "is_person" = true) (k4 : PySem.W.keepIn K (.ref f4) = true)
    (a5 : PySem.W.nsIn K mainGlobals "is_family" = some (some (.ref f5))) (l5 : K.lookup f5 = some ⟨oc5, od5, .func (PySem.W.fnOf "is_family" "is_family" (defArgs s_is_family) (defBody s_is_family) (defScope s_is_family) .none kV5 dc5 pm5 an5 cd5 ct5), sl5⟩) (c5 : PySem.W.codeIn K cd5 "is_family" = true) (k5 : PySem.W.keepIn K (.ref f5) = true)
    (a6 : PySem.W.nsIn K mainGlobals "need_family" = some (some (.ref f6))) (l6 : K.lookup f6 = some ⟨oc6, od6, .func (PySem.W.fnOf "need_family" "need_family" (defArgs s_need_family) (defBody s_need_family) (defScope s_need_family) .none kV6 dc6 pm6 an6 cd6 ct6), sl6⟩) (c6 : PySem.W.codeIn K cd6 "need_family" = true) (k6 : PySem.W.keepIn K (.ref f6) = true)
    (a7 : PySem.W.nsIn K mainGlobals "is_word" = some (some (.ref f7))) (l7 : K.lookup f7 = some ⟨oc7, od7, .func (PySem.W.fnOf "is_word" "is_word" (defArgs s_is_word) (defBody s_is_word) (defScope s_is_word) .none kV7 dc7 pm7 an7 cd7 ct7), sl7⟩) (c7 : PySem.W.codeIn K cd7 "is_word" = true) (k7 : PySem.W.keepIn K (.ref f7) = true)
    (a8 : PySem.W.nsIn K mainGlobals "is_number" = some (some (.ref f8))) (l8 : K.lookup f8 = some ⟨oc8, od8, .func (PySem.W.fnOf "is_number" "is_number" (defArgs s_is_number) (defBody s_is_number) (defScope s_is_number) .none kV8 dc8 pm8 an8 cd8 ct8), sl8⟩) (c8 : PySem.W.codeIn K cd8 "is_number" = true) (k8 : PySem.W.keepIn K (.ref f8) = true)
    (a9 : PySem.W.nsIn K mainGlobals "is_stand" = some (some (.ref f9))) (l9 : K.lookup f9 = some ⟨oc9, od9, .func (PySem.W.fnOf "is_stand" "is_stand" (defArgs s_is_stand) (defBody s_is_stand) (defScope s_is_stand) .none kV9 dc9 pm9 an9 cd9 ct9), sl9⟩) (c9 : PySem.W.codeIn K cd9 "is_stand" = true) (k9 : PySem.W.keepIn K (.ref f9) = true)
    (a10 : PySem.W.nsIn K mainGlobals "is_speech" = some (some (.ref f10))) (l10 : K.lookup f10 = some ⟨oc10, od10, .func (PySem.W.fnOf "is_speech" "is_speech" (defArgs s_is_speech) (defBody s_is_speech) (defScope s_is_speech) .none kV10 dc10 pm10 an10 cd10 ct10), sl10⟩) (c10 : PySem.W.codeIn K cd10 "is_speech" = true) (k10 : PySem.W.keepIn K (.ref f10) = true)
    (a11 : PySem.W.nsIn K mainGlobals "need_speech" = some (some (.ref f11))) (l11 : K.lookup f11 = some ⟨oc11, od11, .func (PySem.W.fnOf "need_speech" "need_speech" (defArgs s_need_speech) (defBody s_need_speech) (defScope s_need_speech) .none kV11 dc11 pm11 an11 cd11 ct11), sl11⟩) (c11 : PySem.W.codeIn K cd11 "need_speech" = true) (k11 : PySem.W.keepIn K (.ref f11) = true)
    (a12 : PySem.W.nsIn K mainGlobals "lines_text" = some (some (.ref f12))) (l12 : K.lookup f12 = some ⟨oc12, od12, .func (PySem.W.fnOf "lines_text" "lines_text" (defArgs s_lines_text) (defBody s_lines_text) (defScope s_lines_text) .none kV12 dc12 pm12 an12 cd12 ct12), sl12⟩) (c12 : PySem.W.codeIn K cd12 "lines_text" = true) (k12 : PySem.W.keepIn K (.ref f12) = true)
    (a13 : PySem.W.nsIn K mainGlobals "written_speech" = some (some (.ref f13))) (l13 : K.lookup f13 = some ⟨oc13, od13, .func (PySem.W.fnOf "written_speech" "written_speech" (defArgs s_written_speech) (defBody s_written_speech) (defScope s_written_speech) .none kV13 dc13 pm13 an13 cd13 ct13), sl13⟩) (c13 : PySem.W.codeIn K cd13 "written_speech" = true) (k13 : PySem.W.keepIn K (.ref f13) = true)
    (a14 : PySem.W.nsIn K mainGlobals "written_family" = some (some (.ref f14))) (l14 : K.lookup f14 = some ⟨oc14, od14, .func (PySem.W.fnOf "written_family" "written_family" (defArgs s_written_family) (defBody s_written_family) (defScope s_written_family) .none kV14 dc14 pm14 an14 cd14 ct14), sl14⟩) (c14 : PySem.W.codeIn K cd14 "written_family" = true) (k14 : PySem.W.keepIn K (.ref f14) = true)
    (a15 : PySem.W.nsIn K mainGlobals "speech_text" = some (some (.ref f15))) (l15 : K.lookup f15 = some ⟨oc15, od15, .func (PySem.W.fnOf "speech_text" "speech_text" (defArgs s_speech_text) (defBody s_speech_text) (defScope s_speech_text) .none kV15 dc15 pm15 an15 cd15 ct15), sl15⟩) (c15 : PySem.W.codeIn K cd15 "speech_text" = true) (k15 : PySem.W.keepIn K (.ref f15) = true)
    (a16 : PySem.W.nsIn K mainGlobals "family_text" = some (some (.ref f16))) (l16 : K.lookup f16 = some ⟨oc16, od16, .func (PySem.W.fnOf "family_text" "family_text" (defArgs s_family_text) (defBody s_family_text) (defScope s_family_text) .none kV16 dc16 pm16 an16 cd16 ct16), sl16⟩) (c16 : PySem.W.codeIn K cd16 "family_text" = true) (k16 : PySem.W.keepIn K (.ref f16) = true)
    (a17 : PySem.W.nsIn K mainGlobals "lines_of" = some (some (.ref f17))) (l17 : K.lookup f17 = some ⟨oc17, od17, .func (PySem.W.fnOf "lines_of" "lines_of" (defArgs s_lines_of) (defBody s_lines_of) (defScope s_lines_of) .none kV17 dc17 pm17 an17 cd17 ct17), sl17⟩) (c17 : PySem.W.codeIn K cd17 "lines_of" = true) (k17 : PySem.W.keepIn K (.ref f17) = true)
    (a18 : PySem.W.nsIn K mainGlobals "read_stand" = some (some (.ref f18))) (l18 : K.lookup f18 = some ⟨oc18, od18, .func (PySem.W.fnOf "read_stand" "read_stand" (defArgs s_read_stand) (defBody s_read_stand) (defScope s_read_stand) .none kV18 dc18 pm18 an18 cd18 ct18), sl18⟩) (c18 : PySem.W.codeIn K cd18 "read_stand" = true) (k18 : PySem.W.keepIn K (.ref f18) = true)
    (a19 : PySem.W.nsIn K mainGlobals "read_person" = some (some (.ref f19))) (l19 : K.lookup f19 = some ⟨oc19, od19, .func (PySem.W.fnOf "read_person" "read_person" (defArgs s_read_person) (defBody s_read_person) (defScope s_read_person) .none kV19 dc19 pm19 an19 cd19 ct19), sl19⟩) (c19 : PySem.W.codeIn K cd19 "read_person" = true) (k19 : PySem.W.keepIn K (.ref f19) = true)
    (a20 : PySem.W.nsIn K mainGlobals "read_speech" = some (some (.ref f20))) (l20 : K.lookup f20 = some ⟨oc20, od20, .func (PySem.W.fnOf "read_speech" "read_speech" (defArgs s_read_speech) (defBody s_read_speech) (defScope s_read_speech) .none kV20 dc20 pm20 an20 cd20 ct20), sl20⟩) (c20 : PySem.W.codeIn K cd20 "read_speech" = true) (k20 : PySem.W.keepIn K (.ref f20) = true)
    (a21 : PySem.W.nsIn K mainGlobals "read_family" = some (some (.ref f21))) (l21 : K.lookup f21 = some ⟨oc21, od21, .func (PySem.W.fnOf "read_family" "read_family" (defArgs s_read_family) (defBody s_read_family) (defScope s_read_family) .none kV21 dc21 pm21 an21 cd21 ct21), sl21⟩) (c21 : PySem.W.codeIn K cd21 "read_family" = true) (k21 : PySem.W.keepIn K (.ref f21) = true)
    (a22 : PySem.W.nsIn K mainGlobals "_law_draw" = some (some (.ref f22))) (l22 : K.lookup f22 = some ⟨oc22, od22, .func (PySem.W.fnOf "_law_draw" "_law_draw" (defArgs s_law_draw) (defBody s_law_draw) (defScope s_law_draw) .none kV22 dc22 pm22 an22 cd22 ct22), sl22⟩) (c22 : PySem.W.codeIn K cd22 "_law_draw" = true) (k22 : PySem.W.keepIn K (.ref f22) = true)
    (a23 : PySem.W.nsIn K mainGlobals "_law_pick" = some (some (.ref f23))) (l23 : K.lookup f23 = some ⟨oc23, od23, .func (PySem.W.fnOf "_law_pick" "_law_pick" (defArgs s_law_pick) (defBody s_law_pick) (defScope s_law_pick) .none kV23 dc23 pm23 an23 cd23 ct23), sl23⟩) (c23 : PySem.W.codeIn K cd23 "_law_pick" = true) (k23 : PySem.W.keepIn K (.ref f23) = true)
    (a24 : PySem.W.nsIn K mainGlobals "_law_which" = some (some (.ref f24))) (l24 : K.lookup f24 = some ⟨oc24, od24, .func (PySem.W.fnOf "_law_which" "_law_which" (defArgs s_law_which) (defBody s_law_which) (defScope s_law_which) .none kV24 dc24 pm24 an24 cd24 ct24), sl24⟩) (c24 : PySem.W.codeIn K cd24 "_law_which" = true) (k24 : PySem.W.keepIn K (.ref f24) = true)
    (a25 : PySem.W.nsIn K mainGlobals "_law_ask" = some (some (.ref f25))) (l25 : K.lookup f25 = some ⟨oc25, od25, .func (PySem.W.fnOf "_law_ask" "_law_ask" (defArgs s_law_ask) (defBody s_law_ask) (defScope s_law_ask) .none kV25 dc25 pm25 an25 cd25 ct25), sl25⟩) (c25 : PySem.W.codeIn K cd25 "_law_ask" = true) (k25 : PySem.W.keepIn K (.ref f25) = true)
    (a26 : PySem.W.nsIn K mainGlobals "law" = some (some (.ref f26))) (l26 : K.lookup f26 = some ⟨oc26, od26, .func (PySem.W.fnOf "law" "law" (defArgs s_law) (defBody s_law) (defScope s_law) .none kV26 dc26 pm26 an26 cd26 ct26), sl26⟩) (c26 : PySem.W.codeIn K cd26 "law" = true) (k26 : PySem.W.keepIn K (.ref f26) = true)
    (g0 : PySem.W.nsIn K mainGlobals "NoFamily" = some (some (.ref C0)))
    (g1 : PySem.W.nsIn K mainGlobals "NotPlain" = some (some (.ref C1)))
    (g2 : PySem.W.nsIn K mainGlobals "NoName" = some (some (.ref C2)))
    (g3 : PySem.W.nsIn K mainGlobals "NoSex" = some (some (.ref C3)))
    (g4 : PySem.W.nsIn K mainGlobals "NoRow" = some (some (.ref C4)))
    (g5 : PySem.W.nsIn K mainGlobals "NoSpeech" = some (some (.ref C5)))
    (g6 : PySem.W.nsIn K mainGlobals "NotSure" = some (some (.ref C6)))
    (g7 : PySem.W.nsIn K mainGlobals "NoWord" = some (some (.ref C7)))
    (g8 : PySem.W.nsIn K mainGlobals "TooMany" = some (some (.ref C8)))
    (g9 : PySem.W.nsIn K mainGlobals "NoParent" = some (some (.ref C9)))
    (g10 : PySem.W.nsIn K mainGlobals "Taken" = some (some (.ref C10)))
    (g11 : PySem.W.nsIn K mainGlobals "Full" = some (some (.ref C11)))
    (g12 : PySem.W.nsIn K mainGlobals "NoDeed" = some (some (.ref C12)))
    (g13 : PySem.W.nsIn K mainGlobals "NoText" = some (some (.ref C13)))
    (gK : PySem.W.nsIn K mainGlobals "KinError" = some (some (.ref aK)))
    (n_ValueError : PySem.W.nsIn K mainGlobals "ValueError" = some none)
    (n_all : PySem.W.nsIn K mainGlobals "all" = some none)
    (n_bool : PySem.W.nsIn K mainGlobals "bool" = some none)
    (n_int : PySem.W.nsIn K mainGlobals "int" = some none)
    (n_isinstance : PySem.W.nsIn K mainGlobals "isinstance" = some none)
    (n_len : PySem.W.nsIn K mainGlobals "len" = some none)
    (n_range : PySem.W.nsIn K mainGlobals "range" = some none)
    (n_str : PySem.W.nsIn K mainGlobals "str" = some none)
    (n_tuple : PySem.W.nsIn K mainGlobals "tuple" = some none)
    (h_LETTERS : PySem.W.nsIn K mainGlobals "LETTERS" = some (some (.str "abcdefghijklmnopqrstuvwxyz" tk0)))
    (h_SEXES : PySem.W.nsIn K mainGlobals "SEXES" = some (some (.ref ASEXES))) (l_SEXES : K.lookup ASEXES = some ⟨.type "tuple", odSEXES, .seq #[.str "he" thSEXES0, .str "she" thSEXES1] nnSEXES, slSEXES⟩)
    (h_MOST_LETTERS : PySem.W.nsIn K mainGlobals "MOST_LETTERS" = some (some (.int 6 tk2)))
    (h_MOST_PERSONS : PySem.W.nsIn K mainGlobals "MOST_PERSONS" = some (some (.int 40 tk3)))
    (h_STEPS : PySem.W.nsIn K mainGlobals "STEPS" = some (some (.str "fmsd" tk4)))
    (h_MOST_STANDS : PySem.W.nsIn K mainGlobals "MOST_STANDS" = some (some (.int 8 tk5)))
    (h_MOST_WORD : PySem.W.nsIn K mainGlobals "MOST_WORD" = some (some (.int 8 tk6)))
    (h_MOST_SIGNS : PySem.W.nsIn K mainGlobals "MOST_SIGNS" = some (some (.int 1000 tk7)))
    (xj0 : PySem.W.excIn K C0 [.type "ValueError", .type "Exception", .type "BaseException", .type "object"] "ValueError.__new__" = true) (pj0 : PySem.W.keepIn K (.ref C0) = true) (bj0 : PySem.W.subIn K (.ref C0) (.type "BaseException") = some true) (tj0 : PySem.W.typeIn K (.ref C0) = some (.type "type"))
    (xj5 : PySem.W.excIn K C5 [.type "ValueError", .type "Exception", .type "BaseException", .type "object"] "ValueError.__new__" = true) (pj5 : PySem.W.keepIn K (.ref C5) = true) (bj5 : PySem.W.subIn K (.ref C5) (.type "BaseException") = some true) (tj5 : PySem.W.typeIn K (.ref C5) = some (.type "type"))
    (xj13 : PySem.W.excIn K C13 [.type "ValueError", .type "Exception", .type "BaseException", .type "object"] "ValueError.__new__" = true) (pj13 : PySem.W.keepIn K (.ref C13) = true) (bj13 : PySem.W.subIn K (.ref C13) (.type "BaseException") = some true) (tj13 : PySem.W.typeIn K (.ref C13) = some (.type "type"))
    (ej01 : PySem.W.findIn K (.ref C0) "__getattribute__" = some (some (.builtin "BaseException.__getattribute__"))) (ej02 : PySem.W.findIn K (.ref C0) "__getattr__" = some none) (ej03 : PySem.W.hasDictIn K C0 = true) (ej04 : PySem.W.findIn K (.ref C0) "__class__" = some (some (.builtin "object.__class__"))) (ej05 : PySem.W.mroIn K C0 (.type "object") = some true)
    (yj0m0 : PySem.W.subIn K (.ref C0) (.ref C0) = some true)
    (yj0m1 : PySem.W.subIn K (.ref C0) (.ref C1) = some false)
    (yj0m2 : PySem.W.subIn K (.ref C0) (.ref C2) = some false)
    (yj0m3 : PySem.W.subIn K (.ref C0) (.ref C3) = some false)
    (yj0m4 : PySem.W.subIn K (.ref C0) (.ref C4) = some false)
    (yj0m5 : PySem.W.subIn K (.ref C0) (.ref C5) = some false)
    (yj0m6 : PySem.W.subIn K (.ref C0) (.ref C6) = some false)
    (yj0m7 : PySem.W.subIn K (.ref C0) (.ref C7) = some false)
    (yj0m8 : PySem.W.subIn K (.ref C0) (.ref C8) = some false)
    (yj0m9 : PySem.W.subIn K (.ref C0) (.ref C9) = some false)
    (yj0m10 : PySem.W.subIn K (.ref C0) (.ref C10) = some false)
    (yj0m11 : PySem.W.subIn K (.ref C0) (.ref C11) = some false)
    (yj0m12 : PySem.W.subIn K (.ref C0) (.ref C12) = some false)
    (yj0m13 : PySem.W.subIn K (.ref C0) (.ref C13) = some false)
    (yj0v : PySem.W.subIn K (.ref C0) (.type "ValueError") = some true) (yj0K : PySem.W.subIn K (.ref C0) (.ref aK) = some true)
    (ej51 : PySem.W.findIn K (.ref C5) "__getattribute__" = some (some (.builtin "BaseException.__getattribute__"))) (ej52 : PySem.W.findIn K (.ref C5) "__getattr__" = some none) (ej53 : PySem.W.hasDictIn K C5 = true) (ej54 : PySem.W.findIn K (.ref C5) "__class__" = some (some (.builtin "object.__class__"))) (ej55 : PySem.W.mroIn K C5 (.type "object") = some true)
    (yj5m0 : PySem.W.subIn K (.ref C5) (.ref C0) = some false)
    (yj5m1 : PySem.W.subIn K (.ref C5) (.ref C1) = some false)
    (yj5m2 : PySem.W.subIn K (.ref C5) (.ref C2) = some false)
    (yj5m3 : PySem.W.subIn K (.ref C5) (.ref C3) = some false)
    (yj5m4 : PySem.W.subIn K (.ref C5) (.ref C4) = some false)
    (yj5m5 : PySem.W.subIn K (.ref C5) (.ref C5) = some true)
    (yj5m6 : PySem.W.subIn K (.ref C5) (.ref C6) = some false)
    (yj5m7 : PySem.W.subIn K (.ref C5) (.ref C7) = some false)
    (yj5m8 : PySem.W.subIn K (.ref C5) (.ref C8) = some false)
    (yj5m9 : PySem.W.subIn K (.ref C5) (.ref C9) = some false)
    (yj5m10 : PySem.W.subIn K (.ref C5) (.ref C10) = some false)
    (yj5m11 : PySem.W.subIn K (.ref C5) (.ref C11) = some false)
    (yj5m12 : PySem.W.subIn K (.ref C5) (.ref C12) = some false)
    (yj5m13 : PySem.W.subIn K (.ref C5) (.ref C13) = some false)
    (yj5v : PySem.W.subIn K (.ref C5) (.type "ValueError") = some true) (yj5K : PySem.W.subIn K (.ref C5) (.ref aK) = some true)
    (ej131 : PySem.W.findIn K (.ref C13) "__getattribute__" = some (some (.builtin "BaseException.__getattribute__"))) (ej132 : PySem.W.findIn K (.ref C13) "__getattr__" = some none) (ej133 : PySem.W.hasDictIn K C13 = true) (ej134 : PySem.W.findIn K (.ref C13) "__class__" = some (some (.builtin "object.__class__"))) (ej135 : PySem.W.mroIn K C13 (.type "object") = some true)
    (yj13m0 : PySem.W.subIn K (.ref C13) (.ref C0) = some false)
    (yj13m1 : PySem.W.subIn K (.ref C13) (.ref C1) = some false)
    (yj13m2 : PySem.W.subIn K (.ref C13) (.ref C2) = some false)
    (yj13m3 : PySem.W.subIn K (.ref C13) (.ref C3) = some false)
    (yj13m4 : PySem.W.subIn K (.ref C13) (.ref C4) = some false)
    (yj13m5 : PySem.W.subIn K (.ref C13) (.ref C5) = some false)
    (yj13m6 : PySem.W.subIn K (.ref C13) (.ref C6) = some false)
    (yj13m7 : PySem.W.subIn K (.ref C13) (.ref C7) = some false)
    (yj13m8 : PySem.W.subIn K (.ref C13) (.ref C8) = some false)
    (yj13m9 : PySem.W.subIn K (.ref C13) (.ref C9) = some false)
    (yj13m10 : PySem.W.subIn K (.ref C13) (.ref C10) = some false)
    (yj13m11 : PySem.W.subIn K (.ref C13) (.ref C11) = some false)
    (yj13m12 : PySem.W.subIn K (.ref C13) (.ref C12) = some false)
    (yj13m13 : PySem.W.subIn K (.ref C13) (.ref C13) = some true)
    (yj13v : PySem.W.subIn K (.ref C13) (.type "ValueError") = some true) (yj13K : PySem.W.subIn K (.ref C13) (.ref aK) = some true)
    (iC0 : PySem.W.isClsIn K C0 = true) (tC0 : PySem.W.typeIn K (.ref C0) = some (.type "type"))
    (iC1 : PySem.W.isClsIn K C1 = true) (tC1 : PySem.W.typeIn K (.ref C1) = some (.type "type"))
    (iC2 : PySem.W.isClsIn K C2 = true) (tC2 : PySem.W.typeIn K (.ref C2) = some (.type "type"))
    (iC3 : PySem.W.isClsIn K C3 = true) (tC3 : PySem.W.typeIn K (.ref C3) = some (.type "type"))
    (iC4 : PySem.W.isClsIn K C4 = true) (tC4 : PySem.W.typeIn K (.ref C4) = some (.type "type"))
    (iC5 : PySem.W.isClsIn K C5 = true) (tC5 : PySem.W.typeIn K (.ref C5) = some (.type "type"))
    (iC6 : PySem.W.isClsIn K C6 = true) (tC6 : PySem.W.typeIn K (.ref C6) = some (.type "type"))
    (iC7 : PySem.W.isClsIn K C7 = true) (tC7 : PySem.W.typeIn K (.ref C7) = some (.type "type"))
    (iC8 : PySem.W.isClsIn K C8 = true) (tC8 : PySem.W.typeIn K (.ref C8) = some (.type "type"))
    (iC9 : PySem.W.isClsIn K C9 = true) (tC9 : PySem.W.typeIn K (.ref C9) = some (.type "type"))
    (iC10 : PySem.W.isClsIn K C10 = true) (tC10 : PySem.W.typeIn K (.ref C10) = some (.type "type"))
    (iC11 : PySem.W.isClsIn K C11 = true) (tC11 : PySem.W.typeIn K (.ref C11) = some (.type "type"))
    (iC12 : PySem.W.isClsIn K C12 = true) (tC12 : PySem.W.typeIn K (.ref C12) = some (.type "type"))
    (iC13 : PySem.W.isClsIn K C13 = true) (tC13 : PySem.W.typeIn K (.ref C13) = some (.type "type"))
    (iK : PySem.W.isClsIn K aK = true) (tK : PySem.W.typeIn K (.ref aK) = some (.type "type")) (bK : PySem.W.subIn K (.ref aK) (.type "BaseException") = some true)
    (o1 : PySem.W.specialIn K (.builtin "object.__class__") "__get__" = some (some (.builtin "getset_descriptor.__get__"))) (o2 : PySem.W.takesIn K (.builtin "object.__class__") = some true)
    : ∃ fd : FuncData, (∀ (s : Shared) (v : Value), BindsTo s fd ⟨[v], []⟩ [("_law_script", v)]) ∧ ∀ base : Heap, K.In base → base.Ns mainGlobals mg → FnOk l.prog w K mg base CX0 8 fa fd ["_law_script"] (spLaw K) := by
  have e := hfa.symm.trans (PySem.W.mg_of X G a26)
  cases e
  have D1 := df_mk (st := s_is_letters) (ps := ["thing", "most"]) X G a1 l1 c1 k1 fun _ _ _ _ _ _ us hl => match us, hl with | [_, _], _ => rfl
  have D2 := df_mk (st := s_is_name) (ps := ["thing"]) X G a2 l2 c2 k2 fun _ _ _ _ _ _ us hl => match us, hl with | [_], _ => rfl
  have D3 := df_mk (st := s_is_sex) (ps := ["thing"]) X G a3 l3 c3 k3 fun _ _ _ _ _ _ us hl => match us, hl with | [_], _ => rfl
  have D4 := df_mk (st := s_is_person) (ps := ["thing"]) X G a4 l4 c4 k4 fun _ _ _ _ _ _ us hl => match us, hl with | [_], _ => rfl
  have D5 := df_mk (st := s_is_family) (ps := ["thing"]) X G a5 l5 c5 k5 fun _ _ _ _ _ _ us hl => match us, hl with | [_], _ => rfl
  have D6 := df_mk (st := s_need_family) (ps := ["thing"]) X G a6 l6 c6 k6 fun _ _ _ _ _ _ us hl => match us, hl with | [_], _ => rfl
  have D7 := df_mk (st := s_is_word) (ps := ["thing"]) X G a7 l7 c7 k7 fun _ _ _ _ _ _ us hl => match us, hl with | [_], _ => rfl
  have D8 := df_mk (st := s_is_number) (ps := ["thing", "many"]) X G a8 l8 c8 k8 fun _ _ _ _ _ _ us hl => match us, hl with | [_, _], _ => rfl
  have D9 := df_mk (st := s_is_stand) (ps := ["thing", "many"]) X G a9 l9 c9 k9 fun _ _ _ _ _ _ us hl => match us, hl with | [_, _], _ => rfl
  have D10 := df_mk (st := s_is_speech) (ps := ["thing"]) X G a10 l10 c10 k10 fun _ _ _ _ _ _ us hl => match us, hl with | [_], _ => rfl
  have D11 := df_mk (st := s_need_speech) (ps := ["thing"]) X G a11 l11 c11 k11 fun _ _ _ _ _ _ us hl => match us, hl with | [_], _ => rfl
  have D12 := df_mk (st := s_lines_text) (ps := ["lines"]) X G a12 l12 c12 k12 fun _ _ _ _ _ _ us hl => match us, hl with | [_], _ => rfl
  have D13 := df_mk (st := s_written_speech) (ps := ["speech"]) X G a13 l13 c13 k13 fun _ _ _ _ _ _ us hl => match us, hl with | [_], _ => rfl
  have D14 := df_mk (st := s_written_family) (ps := ["family"]) X G a14 l14 c14 k14 fun _ _ _ _ _ _ us hl => match us, hl with | [_], _ => rfl
  have D15 := df_mk (st := s_speech_text) (ps := ["speech"]) X G a15 l15 c15 k15 fun _ _ _ _ _ _ us hl => match us, hl with | [_], _ => rfl
  have D16 := df_mk (st := s_family_text) (ps := ["family"]) X G a16 l16 c16 k16 fun _ _ _ _ _ _ us hl => match us, hl with | [_], _ => rfl
  have D17 := df_mk (st := s_lines_of) (ps := ["text"]) X G a17 l17 c17 k17 fun _ _ _ _ _ _ us hl => match us, hl with | [_], _ => rfl
  have D18 := df_mk (st := s_read_stand) (ps := ["words", "numbers"]) X G a18 l18 c18 k18 fun _ _ _ _ _ _ us hl => match us, hl with | [_, _], _ => rfl
  have D19 := df_mk (st := s_read_person) (ps := ["words"]) X G a19 l19 c19 k19 fun _ _ _ _ _ _ us hl => match us, hl with | [_], _ => rfl
  have D20 := df_mk (st := s_read_speech) (ps := ["text"]) X G a20 l20 c20 k20 fun _ _ _ _ _ _ us hl => match us, hl with | [_], _ => rfl
  have D21 := df_mk (st := s_read_family) (ps := ["text"]) X G a21 l21 c21 k21 fun _ _ _ _ _ _ us hl => match us, hl with | [_], _ => rfl
  have D22 := df_mk (st := s_law_draw) (ps := ["_law_script", "_law_town", "_law_many"]) X G a22 l22 c22 k22 fun _ _ _ _ _ _ us hl => match us, hl with | [_, _, _], _ => rfl
  have D23 := df_mk (st := s_law_pick) (ps := ["_law_script", "_law_town", "_law_some"]) X G a23 l23 c23 k23 fun _ _ _ _ _ _ us hl => match us, hl with | [_, _, _], _ => rfl
  have D24 := df_mk (st := s_law_which) (ps := ["_law_e"]) X G a24 l24 c24 k24 fun _ _ _ _ _ _ us hl => match us, hl with | [_], _ => rfl
  have D25 := df_mk (st := s_law_ask) (ps := ["_law_what", "_law_thing"]) X G a25 l25 c25 k25 fun _ _ _ _ _ _ us hl => match us, hl with | [_, _], _ => rfl
  have M0 := PySem.W.mg_of X G g0
  have M1 := PySem.W.mg_of X G g1
  have M2 := PySem.W.mg_of X G g2
  have M3 := PySem.W.mg_of X G g3
  have M4 := PySem.W.mg_of X G g4
  have M5 := PySem.W.mg_of X G g5
  have M6 := PySem.W.mg_of X G g6
  have M7 := PySem.W.mg_of X G g7
  have M8 := PySem.W.mg_of X G g8
  have M9 := PySem.W.mg_of X G g9
  have M10 := PySem.W.mg_of X G g10
  have M11 := PySem.W.mg_of X G g11
  have M12 := PySem.W.mg_of X G g12
  have M13 := PySem.W.mg_of X G g13
  have MK := PySem.W.mg_of X G gK
  have N_ValueError := PySem.W.mg_none_of X G n_ValueError
  have N_all := PySem.W.mg_none_of X G n_all
  have N_bool := PySem.W.mg_none_of X G n_bool
  have N_int := PySem.W.mg_none_of X G n_int
  have N_isinstance := PySem.W.mg_none_of X G n_isinstance
  have N_len := PySem.W.mg_none_of X G n_len
  have N_range := PySem.W.mg_none_of X G n_range
  have N_str := PySem.W.mg_none_of X G n_str
  have N_tuple := PySem.W.mg_none_of X G n_tuple
  have E0 : ExT K mg "NoFamily" C0 := ⟨M0, xj0, pj0, bj0, tj0⟩
  have E5 : ExT K mg "NoSpeech" C5 := ⟨M5, xj5, pj5, bj5, tj5⟩
  have E13 : ExT K mg "NoText" C13 := ⟨M13, xj13, pj13, bj13, tj13⟩
  have QSEXES : ∀ H, SqT K H ASEXES [.str "he", .str "she"] := fun H => .inr ⟨_, _, _, l_SEXES, rfl, rfl, (by show 2 ≤ sizeLine; decide), .cons ⟨_, rfl⟩ (.cons ⟨_, rfl⟩ .nil)⟩
  let TB : TxtB K mg := ⟨N_ValueError, N_all, N_bool, N_int, N_isinstance, N_len, N_range, N_str, N_tuple, _, PySem.W.mg_of X G h_LETTERS, ASEXES, PySem.W.mg_of X G h_SEXES, QSEXES, _, PySem.W.mg_of X G h_MOST_LETTERS, _, PySem.W.mg_of X G h_MOST_PERSONS, _, PySem.W.mg_of X G h_STEPS, _, PySem.W.mg_of X G h_MOST_STANDS, _, PySem.W.mg_of X G h_MOST_WORD, _, PySem.W.mg_of X G h_MOST_SIGNS, C0, E0, C5, E5, C13, E13⟩
  let T : Txt K mg := ⟨TB, f1, _, D1, f2, _, D2, f3, _, D3, f4, _, D4, f5, _, D5, f6, _, D6, f7, _, D7, f8, _, D8, f9, _, D9, f10, _, D10, f11, _, D11, f12, _, D12, f13, _, D13, f14, _, D14, f15, _, D15, f16, _, D16, f17, _, D17, f18, _, D18, f19, _, D19, f20, _, D20, f21, _, D21, f22, _, D22, f23, _, D23, f24, _, D24, f25, _, D25⟩
  let CC : Cls K mg := ⟨C0, C1, C2, C3, C4, C5, C6, C7, C8, C9, C10, C11, C12, C13, M0, M1, M2, M3, M4, M5, M6, M7, M8, M9, M10, M11, M12, M13, N_ValueError⟩
  have J0 : IsJ K mg CC C0 0 := ⟨⟨ej01, ej02, bj0, ej03, ej04, o1, o2, ej05⟩, by decide, kit_self, kit_no iC1 tC1 yj0m0 yj0m1, kit_no iC2 tC2 yj0m0 yj0m2, kit_no iC3 tC3 yj0m0 yj0m3, kit_no iC4 tC4 yj0m0 yj0m4, kit_no iC5 tC5 yj0m0 yj0m5, kit_no iC6 tC6 yj0m0 yj0m6, kit_no iC7 tC7 yj0m0 yj0m7, kit_no iC8 tC8 yj0m0 yj0m8, kit_no iC9 tC9 yj0m0 yj0m9, kit_no iC10 tC10 yj0m0 yj0m10, kit_no iC11 tC11 yj0m0 yj0m11, kit_no iC12 tC12 yj0m0 yj0m12, kit_no iC13 tC13 yj0m0 yj0m13, kit_type (by decide +kernel) yj0v⟩
  have mj0 := exm_mk bK iK tK yj0K
  have J5 : IsJ K mg CC C5 5 := ⟨⟨ej51, ej52, bj5, ej53, ej54, o1, o2, ej55⟩, by decide, kit_no iC0 tC0 yj5m5 yj5m0, kit_no iC1 tC1 yj5m5 yj5m1, kit_no iC2 tC2 yj5m5 yj5m2, kit_no iC3 tC3 yj5m5 yj5m3, kit_no iC4 tC4 yj5m5 yj5m4, kit_self, kit_no iC6 tC6 yj5m5 yj5m6, kit_no iC7 tC7 yj5m5 yj5m7, kit_no iC8 tC8 yj5m5 yj5m8, kit_no iC9 tC9 yj5m5 yj5m9, kit_no iC10 tC10 yj5m5 yj5m10, kit_no iC11 tC11 yj5m5 yj5m11, kit_no iC12 tC12 yj5m5 yj5m12, kit_no iC13 tC13 yj5m5 yj5m13, kit_type (by decide +kernel) yj5v⟩
  have mj5 := exm_mk bK iK tK yj5K
  have J13 : IsJ K mg CC C13 13 := ⟨⟨ej131, ej132, bj13, ej133, ej134, o1, o2, ej135⟩, by decide, kit_no iC0 tC0 yj13m13 yj13m0, kit_no iC1 tC1 yj13m13 yj13m1, kit_no iC2 tC2 yj13m13 yj13m2, kit_no iC3 tC3 yj13m13 yj13m3, kit_no iC4 tC4 yj13m13 yj13m4, kit_no iC5 tC5 yj13m13 yj13m5, kit_no iC6 tC6 yj13m13 yj13m6, kit_no iC7 tC7 yj13m13 yj13m7, kit_no iC8 tC8 yj13m13 yj13m8, kit_no iC9 tC9 yj13m13 yj13m9, kit_no iC10 tC10 yj13m13 yj13m10, kit_no iC11 tC11 yj13m13 yj13m11, kit_no iC12 tC12 yj13m13 yj13m12, kit_self, kit_type (by decide +kernel) yj13v⟩
  have mj13 := exm_mk bK iK tK yj13K
  have F := fun_mk (st := s_law) l26 c26 k26
  refine ⟨_, fun s v => .of_eq rfl, fun base _ _ => ok_law T (ok_law_ask (aK := aK) T CC ⟨J0, J5, J13, MK, mj0, mj5, mj13⟩) F⟩
theorem walk {l : PySem.W.OpenLaw} {q : Program} {loose : List Str} {XP : (Str → Option Value) → Heap → Prop} {YP : World → Heap → Prop} {d : DefRec} {K : Params → PySem.W.Frag} (hn : l.most = some 63) (hdf : d.params.defaults = [])
    (hY : ∀ (w : World) (h : Heap), YP w h → (K w.params).In h)
    (F : ∀ (w : World) (mg : Str → Option Value) (fa : Addr) (h : Heap), (K w.params).In h → h.Ns mainGlobals mg → mg d.name = some (.ref fa) →
      ∃ fd : FuncData, (∀ (s : Shared) (u : Value), BindsTo s fd ⟨[u], []⟩ [("_law_script", u)]) ∧ ∀ base : Heap, (K w.params).In base → base.Ns mainGlobals mg → FnOk l.prog w (K w.params) mg base CX0 8 fa fd ["_law_script"] (spLaw (K w.params))) :
    PySem.W.WalkO q loose XP YP l.row.toRowW d [] (fun f vs => PySem.call f vs) :=
  L2.walk_of (n := 63) (k := 8) (x := "_law_script") (CX := fun _ => CX0) (sp := fun w => spLaw (K w.params)) hn (by decide) hdf ⟨rfl, by decide, by decide⟩ hY F (fun _ _ a ns hl _ hS => ⟨a, ns, rfl, hS, hl, fun _ => rfl⟩) fun _ _ _ _ _ z => z
end K19

set_option maxHeartbeats 4000000
open PySem PySem.W PyProof.Rows
set_option maxRecDepth 100000 in
set_option maxHeartbeats 0 in
theorem PySem.Challenge.cw_kincalls_k19_whole_texts_refused_holds : PySem.Challenge.rw_kincalls_k19_whole_texts_refused.Holds := by
  w_on; o_law; k_head; (case hw => w_witness2)
  k_fill
  refine K19.walk (l := PySem.Challenge.rw_kincalls_k19_whole_texts_refused) rfl rfl (fun w h Y => PySem.W.kIn_of Y) ?F
  case F =>
    intro w mg fa h KX G hmg
    refine' K19.all_mk KX G hmg ?kinfact_a1 ?kinfact_l1 ?kinfact_c1 ?kinfact_k1 ?kinfact_a2 ?kinfact_l2 ?kinfact_c2 ?kinfact_k2 ?kinfact_a3 ?kinfact_l3 ?kinfact_c3 ?kinfact_k3 ?kinfact_a4 ?kinfact_l4 ?kinfact_c4 ?kinfact_k4 ?kinfact_a5 ?kinfact_l5 ?kinfact_c5 ?kinfact_k5 ?kinfact_a6 ?kinfact_l6 ?kinfact_c6 ?kinfact_k6 ?kinfact_a7 ?kinfact_l7 ?kinfact_c7 ?kinfact_k7 ?kinfact_a8 ?kinfact_l8 ?kinfact_c8 ?kinfact_k8 ?kinfact_a9 ?kinfact_l9 ?kinfact_c9 ?kinfact_k9 ?kinfact_a10 ?kinfact_l10 ?kinfact_c10 ?kinfact_k10 ?kinfact_a11 ?kinfact_l11 ?kinfact_c11 ?kinfact_k11 ?kinfact_a12 ?kinfact_l12 ?kinfact_c12 ?kinfact_k12 ?kinfact_a13 ?kinfact_l13 ?kinfact_c13 ?kinfact_k13 ?kinfact_a14 ?kinfact_l14 ?kinfact_c14 ?kinfact_k14 ?kinfact_a15 ?kinfact_l15 ?kinfact_c15 ?kinfact_k15 ?kinfact_a16 ?kinfact_l16 ?kinfact_c16 ?kinfact_k16 ?kinfact_a17 ?kinfact_l17 ?kinfact_c17 ?kinfact_k17 ?kinfact_a18 ?kinfact_l18 ?kinfact_c18 ?kinfact_k18 ?kinfact_a19 ?kinfact_l19 ?kinfact_c19 ?kinfact_k19 ?kinfact_a20 ?kinfact_l20 ?kinfact_c20 ?kinfact_k20 ?kinfact_a21 ?kinfact_l21 ?kinfact_c21 ?kinfact_k21 ?kinfact_a22 ?kinfact_l22 ?kinfact_c22 ?kinfact_k22 ?kinfact_a23 ?kinfact_l23 ?kinfact_c23 ?kinfact_k23 ?kinfact_a24 ?kinfact_l24 ?kinfact_c24 ?kinfact_k24 ?kinfact_a25 ?kinfact_l25 ?kinfact_c25 ?kinfact_k25 ?kinfact_a26 ?kinfact_l26 ?kinfact_c26 ?kinfact_k26 ?kinfact_g0 ?kinfact_g1 ?kinfact_g2 ?kinfact_g3 ?kinfact_g4 ?kinfact_g5 ?kinfact_g6 ?kinfact_g7 ?kinfact_g8 ?kinfact_g9 ?kinfact_g10 ?kinfact_g11 ?kinfact_g12 ?kinfact_g13 ?kinfact_gK ?kinfact_n_ValueError ?kinfact_n_all ?kinfact_n_bool ?kinfact_n_int ?kinfact_n_isinstance ?kinfact_n_len ?kinfact_n_range ?kinfact_n_str ?kinfact_n_tuple ?kinfact_h_LETTERS ?kinfact_h_SEXES ?kinfact_l_SEXES ?kinfact_h_MOST_LETTERS ?kinfact_h_MOST_PERSONS ?kinfact_h_STEPS ?kinfact_h_MOST_STANDS ?kinfact_h_MOST_WORD ?kinfact_h_MOST_SIGNS ?kinfact_xj0 ?kinfact_pj0 ?kinfact_bj0 ?kinfact_tj0 ?kinfact_xj5 ?kinfact_pj5 ?kinfact_bj5 ?kinfact_tj5 ?kinfact_xj13 ?kinfact_pj13 ?kinfact_bj13 ?kinfact_tj13 ?kinfact_ej01 ?kinfact_ej02 ?kinfact_ej03 ?kinfact_ej04 ?kinfact_ej05 ?kinfact_yj0m0 ?kinfact_yj0m1 ?kinfact_yj0m2 ?kinfact_yj0m3 ?kinfact_yj0m4 ?kinfact_yj0m5 ?kinfact_yj0m6 ?kinfact_yj0m7 ?kinfact_yj0m8 ?kinfact_yj0m9 ?kinfact_yj0m10 ?kinfact_yj0m11 ?kinfact_yj0m12 ?kinfact_yj0m13 ?kinfact_yj0v ?kinfact_yj0K ?kinfact_ej51 ?kinfact_ej52 ?kinfact_ej53 ?kinfact_ej54 ?kinfact_ej55 ?kinfact_yj5m0 ?kinfact_yj5m1 ?kinfact_yj5m2 ?kinfact_yj5m3 ?kinfact_yj5m4 ?kinfact_yj5m5 ?kinfact_yj5m6 ?kinfact_yj5m7 ?kinfact_yj5m8 ?kinfact_yj5m9 ?kinfact_yj5m10 ?kinfact_yj5m11 ?kinfact_yj5m12 ?kinfact_yj5m13 ?kinfact_yj5v ?kinfact_yj5K ?kinfact_ej131 ?kinfact_ej132 ?kinfact_ej133 ?kinfact_ej134 ?kinfact_ej135 ?kinfact_yj13m0 ?kinfact_yj13m1 ?kinfact_yj13m2 ?kinfact_yj13m3 ?kinfact_yj13m4 ?kinfact_yj13m5 ?kinfact_yj13m6 ?kinfact_yj13m7 ?kinfact_yj13m8 ?kinfact_yj13m9 ?kinfact_yj13m10 ?kinfact_yj13m11 ?kinfact_yj13m12 ?kinfact_yj13m13 ?kinfact_yj13v ?kinfact_yj13K ?kinfact_iC0 ?kinfact_tC0 ?kinfact_iC1 ?kinfact_tC1 ?kinfact_iC2 ?kinfact_tC2 ?kinfact_iC3 ?kinfact_tC3 ?kinfact_iC4 ?kinfact_tC4 ?kinfact_iC5 ?kinfact_tC5 ?kinfact_iC6 ?kinfact_tC6 ?kinfact_iC7 ?kinfact_tC7 ?kinfact_iC8 ?kinfact_tC8 ?kinfact_iC9 ?kinfact_tC9 ?kinfact_iC10 ?kinfact_tC10 ?kinfact_iC11 ?kinfact_tC11 ?kinfact_iC12 ?kinfact_tC12 ?kinfact_iC13 ?kinfact_tC13 ?kinfact_iK ?kinfact_tK ?kinfact_bK ?kinfact_o1 ?kinfact_o2
    (case kinfact_a1 => k_is); (case kinfact_l1 => k_is); (case kinfact_c1 => k_is); (case kinfact_k1 => k_is)
    (case kinfact_a2 => k_is); (case kinfact_l2 => k_is); (case kinfact_c2 => k_is); (case kinfact_k2 => k_is)
    (case kinfact_a3 => k_is); (case kinfact_l3 => k_is); (case kinfact_c3 => k_is); (case kinfact_k3 => k_is)
    (case kinfact_a4 => k_is); (case kinfact_l4 => k_is); (case kinfact_c4 => k_is); (case kinfact_k4 => k_is)
    (case kinfact_a5 => k_is); (case kinfact_l5 => k_is); (case kinfact_c5 => k_is); (case kinfact_k5 => k_is)
    (case kinfact_a6 => k_is); (case kinfact_l6 => k_is); (case kinfact_c6 => k_is); (case kinfact_k6 => k_is)
    (case kinfact_a7 => k_is); (case kinfact_l7 => k_is); (case kinfact_c7 => k_is); (case kinfact_k7 => k_is)
    (case kinfact_a8 => k_is); (case kinfact_l8 => k_is); (case kinfact_c8 => k_is); (case kinfact_k8 => k_is)
    (case kinfact_a9 => k_is); (case kinfact_l9 => k_is); (case kinfact_c9 => k_is); (case kinfact_k9 => k_is)
    (case kinfact_a10 => k_is); (case kinfact_l10 => k_is); (case kinfact_c10 => k_is); (case kinfact_k10 => k_is)
    (case kinfact_a11 => k_is); (case kinfact_l11 => k_is); (case kinfact_c11 => k_is); (case kinfact_k11 => k_is)
    (case kinfact_a12 => k_is); (case kinfact_l12 => k_is); (case kinfact_c12 => k_is); (case kinfact_k12 => k_is)
    (case kinfact_a13 => k_is); (case kinfact_l13 => k_is); (case kinfact_c13 => k_is); (case kinfact_k13 => k_is)
    (case kinfact_a14 => k_is); (case kinfact_l14 => k_is); (case kinfact_c14 => k_is); (case kinfact_k14 => k_is)
    (case kinfact_a15 => k_is); (case kinfact_l15 => k_is); (case kinfact_c15 => k_is); (case kinfact_k15 => k_is)
    (case kinfact_a16 => k_is); (case kinfact_l16 => k_is); (case kinfact_c16 => k_is); (case kinfact_k16 => k_is)
    (case kinfact_a17 => k_is); (case kinfact_l17 => k_is); (case kinfact_c17 => k_is); (case kinfact_k17 => k_is)
    (case kinfact_a18 => k_is); (case kinfact_l18 => k_is); (case kinfact_c18 => k_is); (case kinfact_k18 => k_is)
    (case kinfact_a19 => k_is); (case kinfact_l19 => k_is); (case kinfact_c19 => k_is); (case kinfact_k19 => k_is)
    (case kinfact_a20 => k_is); (case kinfact_l20 => k_is); (case kinfact_c20 => k_is); (case kinfact_k20 => k_is)
    (case kinfact_a21 => k_is); (case kinfact_l21 => k_is); (case kinfact_c21 => k_is); (case kinfact_k21 => k_is)
    (case kinfact_a22 => k_is); (case kinfact_l22 => k_is); (case kinfact_c22 => k_is); (case kinfact_k22 => k_is)
    (case kinfact_a23 => k_is); (case kinfact_l23 => k_is); (case kinfact_c23 => k_is); (case kinfact_k23 => k_is)
    (case kinfact_a24 => k_is); (case kinfact_l24 => k_is); (case kinfact_c24 => k_is); (case kinfact_k24 => k_is)
    (case kinfact_a25 => k_is); (case kinfact_l25 => k_is); (case kinfact_c25 => k_is); (case kinfact_k25 => k_is)
    (case kinfact_a26 => k_is); (case kinfact_l26 => k_is); (case kinfact_c26 => k_is); (case kinfact_k26 => k_is)
    (case kinfact_g0 => k_is); (case kinfact_g1 => k_is); (case kinfact_g2 => k_is); (case kinfact_g3 => k_is)
    (case kinfact_g4 => k_is); (case kinfact_g5 => k_is); (case kinfact_g6 => k_is); (case kinfact_g7 => k_is)
    (case kinfact_g8 => k_is); (case kinfact_g9 => k_is); (case kinfact_g10 => k_is); (case kinfact_g11 => k_is)
    (case kinfact_g12 => k_is); (case kinfact_g13 => k_is); (case kinfact_gK => k_is); (case kinfact_n_ValueError => k_is)
    (case kinfact_n_all => k_is); (case kinfact_n_bool => k_is); (case kinfact_n_int => k_is); (case kinfact_n_isinstance => k_is)
    (case kinfact_n_len => k_is); (case kinfact_n_range => k_is); (case kinfact_n_str => k_is); (case kinfact_n_tuple => k_is)
    (case kinfact_h_LETTERS => k_is); (case kinfact_h_SEXES => k_is); (case kinfact_l_SEXES => k_is); (case kinfact_h_MOST_LETTERS => k_is)
    (case kinfact_h_MOST_PERSONS => k_is); (case kinfact_h_STEPS => k_is); (case kinfact_h_MOST_STANDS => k_is); (case kinfact_h_MOST_WORD => k_is)
    (case kinfact_h_MOST_SIGNS => k_is); (case kinfact_xj0 => k_exc); (case kinfact_pj0 => k_is); (case kinfact_bj0 => k_is)
    (case kinfact_tj0 => k_is); (case kinfact_xj5 => k_exc); (case kinfact_pj5 => k_is); (case kinfact_bj5 => k_is)
    (case kinfact_tj5 => k_is); (case kinfact_xj13 => k_exc); (case kinfact_pj13 => k_is); (case kinfact_bj13 => k_is)
    (case kinfact_tj13 => k_is); (case kinfact_ej01 => k_is); (case kinfact_ej02 => k_is); (case kinfact_ej03 => k_is)
    (case kinfact_ej04 => k_is); (case kinfact_ej05 => k_is); (case kinfact_yj0m0 => first | k_is | rfl); (case kinfact_yj0m1 => k_is)
    (case kinfact_yj0m2 => k_is); (case kinfact_yj0m3 => k_is); (case kinfact_yj0m4 => k_is); (case kinfact_yj0m5 => k_is)
    (case kinfact_yj0m6 => k_is); (case kinfact_yj0m7 => k_is); (case kinfact_yj0m8 => k_is); (case kinfact_yj0m9 => k_is)
    (case kinfact_yj0m10 => k_is); (case kinfact_yj0m11 => k_is); (case kinfact_yj0m12 => k_is); (case kinfact_yj0m13 => k_is)
    (case kinfact_yj0v => k_is); (case kinfact_yj0K => k_is); (case kinfact_ej51 => k_is); (case kinfact_ej52 => k_is)
    (case kinfact_ej53 => k_is); (case kinfact_ej54 => k_is); (case kinfact_ej55 => k_is); (case kinfact_yj5m0 => k_is)
    (case kinfact_yj5m1 => k_is); (case kinfact_yj5m2 => k_is); (case kinfact_yj5m3 => k_is); (case kinfact_yj5m4 => k_is)
    (case kinfact_yj5m5 => first | k_is | rfl); (case kinfact_yj5m6 => k_is); (case kinfact_yj5m7 => k_is); (case kinfact_yj5m8 => k_is)
    (case kinfact_yj5m9 => k_is); (case kinfact_yj5m10 => k_is); (case kinfact_yj5m11 => k_is); (case kinfact_yj5m12 => k_is)
    (case kinfact_yj5m13 => k_is); (case kinfact_yj5v => k_is); (case kinfact_yj5K => k_is); (case kinfact_ej131 => k_is)
    (case kinfact_ej132 => k_is); (case kinfact_ej133 => k_is); (case kinfact_ej134 => k_is); (case kinfact_ej135 => k_is)
    (case kinfact_yj13m0 => k_is); (case kinfact_yj13m1 => k_is); (case kinfact_yj13m2 => k_is); (case kinfact_yj13m3 => k_is)
    (case kinfact_yj13m4 => k_is); (case kinfact_yj13m5 => k_is); (case kinfact_yj13m6 => k_is); (case kinfact_yj13m7 => k_is)
    (case kinfact_yj13m8 => k_is); (case kinfact_yj13m9 => k_is); (case kinfact_yj13m10 => k_is); (case kinfact_yj13m11 => k_is)
    (case kinfact_yj13m12 => k_is); (case kinfact_yj13m13 => first | k_is | rfl); (case kinfact_yj13v => k_is); (case kinfact_yj13K => k_is)
    (case kinfact_iC0 => k_is); (case kinfact_tC0 => k_is); (case kinfact_iC1 => k_is); (case kinfact_tC1 => k_is)
    (case kinfact_iC2 => k_is); (case kinfact_tC2 => k_is); (case kinfact_iC3 => k_is); (case kinfact_tC3 => k_is)
    (case kinfact_iC4 => k_is); (case kinfact_tC4 => k_is); (case kinfact_iC5 => k_is); (case kinfact_tC5 => k_is)
    (case kinfact_iC6 => k_is); (case kinfact_tC6 => k_is); (case kinfact_iC7 => k_is); (case kinfact_tC7 => k_is)
    (case kinfact_iC8 => k_is); (case kinfact_tC8 => k_is); (case kinfact_iC9 => k_is); (case kinfact_tC9 => k_is)
    (case kinfact_iC10 => k_is); (case kinfact_tC10 => k_is); (case kinfact_iC11 => k_is); (case kinfact_tC11 => k_is)
    (case kinfact_iC12 => k_is); (case kinfact_tC12 => k_is); (case kinfact_iC13 => k_is); (case kinfact_tC13 => k_is)
    (case kinfact_iK => k_is); (case kinfact_tK => k_is); (case kinfact_bK => k_is); (case kinfact_o1 => k_is)
    (case kinfact_o2 => k_is)

