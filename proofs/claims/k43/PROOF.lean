import PyProof.Rows.All
import Wide.All
import OpenK.AllK
import Wide.FinOn
import PyProof.EqAt
import PyProof.EqKinds
import PyProof.TupleCall
import KE.KExcIs
import HandS.ForMost
import HandS.Exc
import HandS.ExcOwn
import HandS.ExcInit
import HandS.ExcValue
import HandS.ExcField
import HandS.ExcIs
import HandS.IsInst
import HandS.Wide
import HandS.DictComp
import HandS.DeepEq
import PySem.Challenge.RW_lookuploops_k43_errors
set_option Elab.async false
set_option linter.all false
set_option maxRecDepth 100000
set_option maxHeartbeats 2000000
/-! Errors as values: made by a call, asked by isinstance, their fields read. -/
namespace L2.Ev
open PySem PySem.Spec PyProof.Rows

/-- an error of the class at C stands at a -/
def IsEx (H : Hp) (a C : Addr) : Prop :=
  (∃ dx fs, H a = some (exo a C (some dx)) ∧ H dx = some (exd dx fs)) ∨ H a = some (ExO (.ref C) a)

theorem IsEx.inst {X : Cx} {pins : List (Addr × Obj)} {σ : St} {H : Hp} {s : Shared} {a C : Addr} (I : Inv X pins σ H s) (e : IsEx H a C) :
    ∃ ox od, PySem.W.InstAt s.heap a ox C od := by
  rcases e with ⟨dx, fs, ea, ed⟩ | ea
  · obtain ⟨t1, ho⟩ := exo_at I.hok ea
    obtain ⟨mA, hns, _⟩ := exd_at I.hok ed
    obtain ⟨od, hd, _⟩ := lookIn_ns hns
    exact ⟨_, some od, ho, rfl, rfl, hd⟩
  · have x : ObjOk X.prog X.w H s.heap a (ExO (.ref C) a) := I.hok a _ ea
    obtain ⟨⟨oe, vs, h1, hz, hd, _⟩, _⟩ := x
    refine ⟨oe, none, h1, hz.1, ?_, ?_⟩
    · unfold PySem.W.notCls
      rw [hd]
    · rw [hz.2]
      trivial

/-- isinstance(e, c), e an error held as a value -/
def rIsV (K : PySem.W.Frag) : List V → Hp → VK → Prop := fun xs H Q =>
  ∃ (a C : Addr) (c : V) (u : Value) (b : Bool), xs = [.ref a, c] ∧ ClsV c u ∧ IsEx H a C ∧ ExcC K C ∧ PySem.W.kitOne K (.ref C) u = some b ∧ Q (.bl b) H
theorem call_isV {X : Cx} : CallR X (.builtin "isinstance") (rIsV X.K) := by
  intro pins s σ H xs us Q I r h
  obtain ⟨a, C, c, u, b, rfl, hc, hx, T, e, q⟩ := h
  obtain ⟨u1, u2, rfl, r1, r2⟩ := vals2 r
  cases (show u1 = Value.ref a from r1)
  have e2 := hc.eq r2
  subst e2
  obtain ⟨ox, od, J⟩ := hx.inst I
  have hcl : (PySem.W.clsIn X.K C).isSome = true := by
    obtain ⟨cd, hcd, _⟩ := PySem.W.any_some T.hd
    rw [hcd]
    rfl
  exact PySem.W.kia_one (PySem.W.kitx_exc (od := od) (ox := ox) hcl T.hg T.hk T.hs T.ha T.hn T.ht T.hm) I.kIn J e (fun z => nomatch z) fun tk => ⟨.bl b, H, I.tok tk, rfl, q⟩

/-- e.f, e an error with a dict -/
def tXv (K : PySem.W.Frag) (n : Str) (te : TE) : TE := fun σ H Q => te σ H fun x H1 =>
  ∃ (a C dx : Addr) (fs : List (Str × V)) (v : V), x = .ref a ∧ H1 a = some (exo a C (some dx)) ∧ H1 dx = some (exd dx fs) ∧ XfC K C ∧ PySem.W.findIn K (.ref C) n = some none ∧ fs.lookup n = some v ∧ Q v H1
theorem pe_xv {X : Cx} {e : Expr} {te : TE} {pos : Pos} {n : Str} (he : PE X e te) (hb : attributeBase e n X.env (eval e X.env) = eval e X.env := by rfl) : PE X (.Attribute e n pos) (tXv X.K n te) := by
  refine ⟨fun pins s σ H Q I h => ?_⟩
  refine attr_of hb (thn (he.run pins s σ H _ I h) fun u s1 ⟨x, H1, I1, rx, a, C, dx, fs, v, ex, ea, ed, T, hno, l, q⟩ => ?_)
  subst ex
  cases (show u = Value.ref a from rx)
  obtain ⟨t1, ho⟩ := exo_at I1.hok ea
  obtain ⟨mA, hns, hr⟩ := exd_at I1.hok ed
  obtain ⟨od, hod, hl⟩ := lookIn_ns hns
  obtain ⟨u, hu, ru⟩ := RelO.some_of (v := v) (o := mA n) (by rw [← l]; exact hr n)
  have J : PySem.W.InstAt s1.heap a _ C (some od) := ⟨ho, rfl, rfl, hod⟩
  exact HandSPX.exc_get I1.kIn J T.ga T.gg T.exC (PySem.W.findObj_own T.hdC hno rfl (by rw [hl, hu])) (handed_of ru) ⟨v, H1, I1.tok _, ru, q⟩

/-- C(e, ..) as a value, C's own __init__ keeping sp -/
def tMkV (C : Addr) (sp : Sp) (ta : TA) : TE := fun σ H Q => ta σ H fun vs H1 => vs.length ≤ 1000 ∧ ∀ a, H1 a = none →
  sp (.ref a :: vs) (upd H1 a (exo a C none)) (fun v H2 => v = .non ∧ Q (.ref a) H2) (fun _ _ _ => False)
theorem pe_mkV {X : Cx} {x : Str} {C fI : Addr} {k : Nat} {fd : FuncData} {ps : List Str} {sp : Sp} {e : Expr} {es : List Expr} {ta : TA} {p pos : Pos} (T : OexC X.K C)
    (iC : PySem.W.findIn X.K (.ref C) "__init__" = some (some (.ref fI))) (tI : PySem.W.typeIn X.K (.ref fI) = some (.type "function"))
    (F1 : FnOk X.prog X.w X.K X.mg X.base CX0 k fI fd ps sp) (hr : Room (k + 1) X.A) (hb : Binds X.K fd ps []) (hg : Gl X x) (hm : X.mg x = some (.ref C)) (ha : PA X (e :: es) ta)
    (hdb : (x == ("__debug__" : Str)) = false := by decide) (he : starEach (e :: es) X.env = (false, eval e X.env) :: starEach es X.env := by rfl) (hpl : (backTo pos (starEach es X.env)).any (·.1) = false := by rfl) :
    PE X (.Call (.Name x p) (e :: es) [] pos) (tMkV C sp ta) := by
  refine ⟨fun pins s σ H Q I h => ?_⟩
  obtain ⟨nm, q, N, bs, bm, sn, sub, ab, col, dd, k0, k1, k2, k3, k5, hC, hbm⟩ := T.cls
  refine wpAny_Call_Name_kw (ld_glob I hg hm ?_ hdb)
  refine PySem.W.callWith_K (h₀ := X.base) I.ok.mod.kin T.kC (thn (ha.run pos pins s σ H _ I h) fun us s1 ⟨vs, H1, I1, r1, hz, q1⟩ => ⟨I1.kIn, ?_⟩) he hpl
  show wpAny _ _ (call (.ref C) us) _ _ _
  obtain ⟨hp, g, dr, tk, os⟩ := s1
  have hsz : hp.objs.size ≤ hp.objs.size + 1 := Nat.le_succ _
  have hn : H1 (hp.objs.size + 1) = none := I1.hok.fresh hsz
  have hq := q1 (hp.objs.size + 1) hn
  have kk : ∀ b o, hp.get? b = some o → ((hp.push (PySem.W.kdv_tup us)).push (PySem.HandSPX.excO C hp.objs.size)).get? b = some o :=
    fun b o z => Heap.get?_push_of_some _ (Heap.get?_push_of_some _ z)
  have hget : ((hp.push (PySem.W.kdv_tup us)).push (PySem.HandSPX.excO C hp.objs.size)).get? (hp.objs.size + 1) = some (PySem.HandSPX.excO C hp.objs.size) := by heap_get
  generalize hpp : (hp.push (PySem.W.kdv_tup us)).push (PySem.HandSPX.excO C hp.objs.size) = hp1 at kk hget
  have I2 : Inv X pins σ (upd H1 (hp.objs.size + 1) (exo (hp.objs.size + 1) C none)) ⟨hp1, g, dr, tk, os⟩ := I1.laid (t' := tk) kk hsz (exo_ok hget)
  have r2 : Vals (V.ref (hp.objs.size + 1) :: vs) (Value.ref (hp.objs.size + 1) :: us) := .cons rfl r1
  have hl : (Value.ref (hp.objs.size + 1) :: us ++ []).length = ps.length := by
    rw [List.append_nil, ← r2.length]
    exact F1.len _ _ _ _ hq
  have hus : us.length ≤ sizeLine := by
    rw [← Paired.length r1, sizeLine_eq]
    omega
  have hb' := hb ⟨hp1, g, dr, tk, os⟩ (Value.ref (hp.objs.size + 1) :: us) I2.kIn (by rw [List.append_nil] at hl; rw [← hl]; first | rfl | simp)
  rw [List.append_nil] at hb'
  refine wpAny_call (PySem.HandSPX.call_own F.excBase_ValueError (fun Y => PySem.HandSPX.refsVE_contains Y bm hbm) (I1.kIn _ _ hC) (PySem.W.looks_findIn I1.kIn iC) (fun self => PySem.W.bind_fn I1.kIn self tI) hus ?_)
  rw [hpp]
  refine codeAny_mono (F1.run _ X.stack _ _ ⟨Value.ref (hp.objs.size + 1) :: us, []⟩ (Value.ref (hp.objs.size + 1) :: us) _ _ (fun _ _ _ => False) (hr.make C us []) (I2.env0.make C us []) hb' r2 hq) fun r s' hq' => ?_
  cases r with
  | error er => exact absurd hq' (fun z => z)
  | ok fl =>
    cases fl with
    | ret u =>
      obtain ⟨v, H2, os2, bare2, un2, hok2, rv, q2⟩ := hq'
      have I4 : Inv X pins σ H2 s' := I2.call' (ch := []) os2 un2 hok2 bare2 (fun b z => absurd z (by simp))
      obtain ⟨h2, g2, d2, t2, os'⟩ := s'
      obtain ⟨rfl, q3⟩ := q2
      exact ⟨rv, .ref (hp.objs.size + 1), H2, I4, rfl, q3⟩
    | next => exact False.elim hq'
    | brk => exact False.elim hq'
    | cont => exact False.elim hq'

/-- C() as a value, C an own error class without own __init__, no arguments -/
theorem pe_mkV0 {X : Cx} {C : Addr} {bmB : List Value} {B newId initId : String} {x : Str} {p pos : Pos} (F : ExcBaseFacts B newId initId bmB) (q : PySem.W.excIn X.K C bmB newId = true) (gC : X.mg x = some (.ref C)) (kC : PySem.W.keepIn X.K (.ref C) = true) (hg : Gl X x)
    (hdb : (x == ("__debug__" : Str)) = false := by decide) :
    PE X (.Call (.Name x p) [] [] pos) (fun σ H Q => ∀ a, H a = none → Q (.ref a) (upd H a (ExO (.ref C) a))) := by
  refine ⟨fun pins s σ H Q I h => ?_⟩
  refine wpAny_Call_Name_kw (ld_glob I hg gC ?_ hdb)
  refine PySem.W.callWith_K0 I.kIn kC ?_
  obtain ⟨hp, g, d, t, os⟩ := s
  obtain ⟨bm, N, nm, qn, bs, hdct, sn, sub, ab, col, dd, k0, k1, k2, k3, k5, mN, hC, hN, hni, T⟩ := exc_obj I.kIn q
  refine wpAny_call_exc_subT F T hC hN hni (fun h' a hm => ?_) (by show 0 ≤ sizeLine; omega)
  have hn : H a = none := I.hok.gone hm.new
  obtain ⟨t, ht, _, _⟩ := hm.there
  exact ⟨.ref a, upd H a (ExO (.ref C) a), I.laidN hm.keeps hm.new hn (exO_ok ht ⟨rfl, rfl⟩ rfl rfl rfl (show 4 < 6 by decide)), rfl, h a hn⟩
/-- self.f = e of an error: the first field, a further one -/
theorem exd_two {H : Hp} {a dx C : Addr} {y z : V} {f g : Str} (n : H dx = none) (ne : dx ≠ a) :
    IsEx (upd (upd (upd H dx (exd dx [(f, y)])) a (exo a C (some dx))) dx (exd dx [(g, z), (f, y)])) a C :=
  .inl ⟨dx, _, by rw [upd_ne (Ne.symm ne), upd_same], upd_same⟩

/-! ### what the top has left of an error class -/
/-- an error class of the program, named nm; up: what its order of look-up holds behind it -/
structure XC (K : PySem.W.Frag) (mg : Str → Option Value) (nm : Str) (up : List Value) where
  C : Addr
  g : mg nm = some (.ref C)
  look : ∃ q N bs sn sub ab col dd k0 k1 k2 k3 k5, K.lookup C = some (excClassObj nm q C N bs up true sn sub ab col dd k0 k1 k2 k3 k5 "ValueError.__new__")
  ve : HandSPX.refsVE up = true
  sa : PySem.W.findIn K (.ref C) "__setattr__" = some (some (.builtin "object.__setattr__"))
  ga : PySem.W.findIn K (.ref C) "__getattribute__" = some (some (.builtin "BaseException.__getattribute__"))
  gg : PySem.W.findIn K (.ref C) "__getattr__" = some none
  cc : PySem.W.findIn K (.ref C) "__class__" = some (some (.builtin "object.__class__"))
  kp : PySem.W.keepIn K (.ref C) = true
  gn : PySem.W.specialIn K (.builtin "object.__class__") "__get__" = some (some (.builtin "getset_descriptor.__get__"))
  gt : PySem.W.takesIn K (.builtin "object.__class__") = some true
section
variable {K : PySem.W.Frag} {mg : Str → Option Value} {nm nm' : Str} {up up' : List Value}
theorem XC.cd (x : XC K mg nm up) : ∃ cd, PySem.W.clsIn K x.C = some cd ∧ cd.name = nm ∧ cd.mro = .ref x.C :: up ∧ cd.hasDict = true := by
  obtain ⟨q, N, bs, sn, sub, ab, col, dd, k0, k1, k2, k3, k5, h⟩ := x.look
  refine ⟨_, by unfold PySem.W.clsIn; rw [h], rfl, rfl, rfl⟩
theorem XC.sub (x : XC K mg nm up) (v : Value) : PySem.W.subIn K (.ref x.C) v = some ((Value.ref x.C :: up).contains v) := by
  obtain ⟨cd, h, _, hm, _⟩ := x.cd
  show PySem.W.mroIn K x.C v = _
  unfold PySem.W.mroIn
  rw [h, Option.bind_some, hm]
  rfl
theorem XC.type (x : XC K mg nm up) (T : String) : (Value.ref x.C :: up).contains (.type T) = HandSPX.veTail.contains (.type T) := by
  have e : HandSPX.refsVE (Value.ref x.C :: up) = true := x.ve
  exact HandSPX.refsVE_contains T _ e
theorem XC.ty (x : XC K mg nm up) : PySem.W.typeIn K (.ref x.C) = some (.type "type") := by
  obtain ⟨q, N, bs, sn, sub, ab, col, dd, k0, k1, k2, k3, k5, h⟩ := x.look
  show (K.lookup x.C).map (·.cls) = _
  rw [h]
  rfl
theorem XC.exB (x : XC K mg nm up) : PySem.W.subIn K (.ref x.C) (.type "BaseException") = some true := by
  rw [x.sub, x.type]
  decide +kernel
theorem XC.hd (x : XC K mg nm up) : PySem.W.hasDictIn K x.C = true := by
  obtain ⟨cd, h, _, _, hd⟩ := x.cd
  unfold PySem.W.hasDictIn
  rw [h]
  exact hd
theorem XC.ob (x : XC K mg nm up) : PySem.W.mroIn K x.C (.type "object") = some true := by
  have e := x.sub (.type "object")
  rw [x.type] at e
  exact e.trans (by decide +kernel)
theorem XC.oex (x : XC K mg nm up) : OexC K x.C := by
  obtain ⟨q, N, bs, sn, sub, ab, col, dd, k0, k1, k2, k3, k5, h⟩ := x.look
  exact ⟨⟨nm, q, N, bs, up, sn, sub, ab, col, dd, k0, k1, k2, k3, k5, h, x.ve⟩, x.sa, x.exB, x.ty, x.kp⟩
theorem XC.exc (x : XC K mg nm up) : ExcC K x.C := ⟨x.ga, x.gg, x.exB, x.hd, x.cc, x.gn, x.gt, x.ob⟩
theorem XC.xfc (x : XC K mg nm up) : XfC K x.C := ⟨x.ga, x.gg, x.exB, x.hd⟩
/-- classes of unlike names are unlike -/
theorem XC.ne (x : XC K mg nm up) (y : XC K mg nm' up') (h : nm ≠ nm') : x.C ≠ y.C := fun e => by
  obtain ⟨c, h1, h2, _⟩ := x.cd
  obtain ⟨d, h3, h4, _⟩ := y.cd
  rw [e, h3] at h1
  cases h1
  exact h (h2.symm.trans h4)
theorem XC.kit (x : XC K mg nm up) (y : XC K mg nm' up') : PySem.W.kitOne K (.ref x.C) (.ref y.C) = some ((Value.ref x.C :: up).contains (.ref y.C)) := by
  unfold PySem.W.kitOne
  by_cases e : x.C = y.C
  · rw [if_pos (by rw [e]; simp), List.contains_cons, e]
    simp
  · have n : ¬ (Value.ref x.C == Value.ref y.C) = true := fun z => e (Value.ref.inj (beq_iff_eq.mp z))
    rw [if_neg n]
    show (if ((PySem.W.clsIn K y.C).isSome && PySem.W.typeIn K (.ref y.C) == some (.type "type")) = true then PySem.W.subIn K (.ref x.C) (.ref y.C) else none) = _
    obtain ⟨cd, hc, _⟩ := y.cd
    rw [hc, y.ty, if_pos (by rfl), x.sub]
theorem XC.kitV (x : XC K mg nm up) : PySem.W.kitOne K (.ref x.C) (.type "ValueError") = some true := by
  unfold PySem.W.kitOne
  rw [if_neg (by simp)]
  show (if PySem.W.kitMeta "ValueError" = true then PySem.W.subIn K (.ref x.C) (.type "ValueError") else none) = _
  rw [if_pos (by decide +kernel), x.sub, x.type]
  decide +kernel
end
end L2.Ev
namespace L2.Ev
open PySem PySem.Spec PyProof.Rows
section
variable {X : Cx}
/-- a list beside the empty list: no item is asked -/
def rNil (K : PySem.W.Frag) (f : Bool → Bool) : R2 := fun x y H Q => ∃ a b xs, x = .ref a ∧ y = .ref b ∧ SqL K H a xs ∧ SqL K H b [] ∧ Q (.bl (f xs.isEmpty)) H
theorem op_neNil (hu : X.A.units < cLine) : OpR X (compareOp .NotEq) (rNil X.K fun e => !e) := by
  intro pins s σ H x y v u Q I rx ry h
  obtain ⟨a, b, xs, rfl, rfl, ha, hb, q⟩ := h
  cases (show v = Value.ref a from rx)
  cases (show u = Value.ref b from ry)
  obtain ⟨i1, r1, p1, _⟩ := I.list ha
  obtain ⟨i2, r2, p2, _⟩ := I.list hb
  cases r2
  cases xs with
  | nil =>
    cases r1
    exact SeqAt.RcNeAt.lists (e := fun _ => true) p1.isList p2.isList rfl hu (fun j h1 _ => absurd h1 (by simp)) X.prog X.w _ _ ⟨.bl false, H, I, rfl, q⟩
  | cons z zs =>
    cases r1
    exact SeqAt.RcNeAt.lists_lengths p1.isList p2.isList (by simp) hu X.prog X.w _ _ ⟨.bl true, H, I, rfl, q⟩
theorem op_eqNil (hu : X.A.units < cLine) : OpR X (compareOp .Eq) (rNil X.K fun e => e) := by
  intro pins s σ H x y v u Q I rx ry h
  obtain ⟨a, b, xs, rfl, rfl, ha, hb, q⟩ := h
  cases (show v = Value.ref a from rx)
  cases (show u = Value.ref b from ry)
  obtain ⟨i1, r1, p1, _⟩ := I.list ha
  obtain ⟨i2, r2, p2, _⟩ := I.list hb
  cases r2
  cases xs with
  | nil =>
    cases r1
    exact SeqAt.RcAt.lists (e := fun _ => true) p1.isList p2.isList rfl hu (fun j h1 _ => absurd h1 (by simp)) X.prog X.w _ _ ⟨.bl true, H, I, rfl, q⟩
  | cons z zs =>
    cases r1
    exact SeqAt.RcAt.lists_lengths p1.isList p2.isList (by simp) hu X.prog X.w _ _ ⟨.bl false, H, I, rfl, q⟩
end
/-- all but p is as it was -/
def But (p : Addr) (H H' : Hp) : Prop := ∀ b o, b ≠ p → H b = some o → H' b = some o
theorem But.refl (p : Addr) (H : Hp) : But p H H := fun _ _ _ h => h
theorem But.trans {p : Addr} {H H1 H2 : Hp} (a : But p H H1) (b : But p H1 H2) : But p H H2 := fun c o n h => b c o n (a c o n h)
theorem But.of {p : Addr} {H H' : Hp} (a : Same H H') : But p H H' := fun b o _ h => a b o h
theorem But.new {p q : Addr} {H H1 : Hp} {o : HO} (a : But p H H1) (h : H1 q = none) : But p H (upd H1 q o) := fun b u n e => by
  have z := a b u n e
  rw [upd_ne (ne_of_none z h)]
  exact z
theorem But.own {p q : Addr} {H H1 : Hp} {o : HO} (a : But p H H1) (h : H q = none) : But p H (upd H1 q o) := fun b u n e => by
  rw [upd_ne (ne_of_none e h)]
  exact a b u n e
theorem But.self {p : Addr} {H H1 : Hp} {o : HO} (a : But p H H1) : But p H (upd H1 p o) := fun b u n e => by
  rw [upd_ne n]
  exact a b u n e
theorem Same.new {q : Addr} {H H1 : Hp} {o : HO} (a : Same H H1) (h : H1 q = none) : Same H (upd H1 q o) := fun b u e => by
  have z := a b u e
  rw [upd_ne (ne_of_none z h)]
  exact z
theorem Same.own {q : Addr} {H H1 : Hp} {o : HO} (a : Same H H1) (h : H q = none) : Same H (upd H1 q o) := fun b u e => by
  rw [upd_ne (ne_of_none e h)]
  exact a b u e
/-- what is free in a grown heap was free -/
theorem But.free {p q : Addr} {H H1 : Hp} {o : HO} (a : But p H H1) (hp : H1 p = some o) (h : H1 q = none) : H q = none := by
  cases e : H q with
  | none => rfl
  | some u =>
    by_cases z : q = p
    · rw [z, hp] at h
      cases h
    · rw [a q u z e] at h
      cases h
/-! ### the law's pen: a dict of the cells, the turn, what is left of a large cell -/
def penD (c : Addr) (t l : Int) : List (Key × V) := [(Sum.inr ("cells" : Str), .ref c), (Sum.inr ("turn" : Str), .int t), (Sum.inr ("left" : Str), .int l)]
structure Pen (H : Hp) (p c : Addr) (ns : List Int) (n : Nat) : Prop where
  d : ∃ t l : Int, H p = some (.dK (penD c t l)) ∧ 0 ≤ t ∧ t ≤ (n : Int)
  cells : H c = some (.lst (ns.map V.int))
  len : ns.length ≤ 63
section
variable {H H' : Hp} {p c q : Addr} {ns : List Int} {n : Nat} {t l z : Int} {o : HO}
theorem sne1 : ¬ ("cells" : Str) = ("turn" : Str) := by decide +kernel
theorem sne2 : ¬ ("cells" : Str) = ("left" : Str) := by decide +kernel
theorem sne3 : ¬ ("turn" : Str) = ("left" : Str) := by decide +kernel
theorem sne4 : ¬ ("left" : Str) = ("turn" : Str) := by decide +kernel
theorem kne1 : ¬ (Sum.inr ("cells" : Str) : Key) = Sum.inr ("turn" : Str) := by decide +kernel
theorem kne2 : ¬ (Sum.inr ("cells" : Str) : Key) = Sum.inr ("left" : Str) := by decide +kernel
theorem kne3 : ¬ (Sum.inr ("turn" : Str) : Key) = Sum.inr ("left" : Str) := by decide +kernel
theorem kne4 : ¬ (Sum.inr ("left" : Str) : Key) = Sum.inr ("turn" : Str) := by decide +kernel
theorem pen_cells (h : H p = some (.dK (penD c t l))) : DGet H p (.str ("cells" : Str)) (some (.ref c)) := by
  have e := DGet.k (k := Sum.inr ("cells" : Str)) h
  rw [show valV (penD c t l) (Sum.inr ("cells" : Str)) = some (.ref c) from valV_pos rfl] at e
  exact e
theorem pen_turn (h : H p = some (.dK (penD c t l))) : DGet H p (.str ("turn" : Str)) (some (.int t)) := by
  have e := DGet.k (k := Sum.inr ("turn" : Str)) h
  rw [show valV (penD c t l) (Sum.inr ("turn" : Str)) = some (.int t) from (valV_neg kne1).trans (valV_pos rfl)] at e
  exact e
theorem pen_left (h : H p = some (.dK (penD c t l))) : DGet H p (.str ("left" : Str)) (some (.int l)) := by
  have e := DGet.k (k := Sum.inr ("left" : Str)) h
  rw [show valV (penD c t l) (Sum.inr ("left" : Str)) = some (.int l) from (valV_neg kne2).trans ((valV_neg kne3).trans (valV_pos rfl))] at e
  exact e
theorem pen_put_turn (h : H p = some (.dK (penD c t l))) : DPut H p (.str ("turn" : Str)) (.int z) (upd H p (.dK (penD c z l))) := by
  have e := DPut.k (k := Sum.inr ("turn" : Str)) (v := .int z) h (show 3 < sizeLine by decide)
  rw [show putK (penD c t l) (Sum.inr ("turn" : Str)) (V.int z) = penD c z l from by
    unfold putK penD
    simp [sne1, sne4]] at e
  exact e
theorem pen_put_left (h : H p = some (.dK (penD c t l))) : DPut H p (.str ("left" : Str)) (.int z) (upd H p (.dK (penD c t z))) := by
  have e := DPut.k (k := Sum.inr ("left" : Str)) (v := .int z) h (show 3 < sizeLine by decide)
  rw [show putK (penD c t l) (Sum.inr ("left" : Str)) (V.int z) = penD c t z from by
    unfold putK penD
    simp [sne2, sne3]] at e
  exact e
theorem Pen.ne (h : Pen H p c ns n) : c ≠ p := fun e => by
  obtain ⟨⟨t, l, h1, _⟩, h2, _⟩ := h
  rw [e, h1] at h2
  cases h2
theorem Pen.upd (h : Pen H p c ns n) (h1 : q ≠ p) (h2 : q ≠ c) : Pen (upd H q o) p c ns n := by
  obtain ⟨⟨t, l, h3, h4⟩, h5, h6⟩ := h
  exact ⟨⟨t, l, by rw [upd_ne (Ne.symm h1)]; exact h3, h4⟩, by rw [upd_ne (Ne.symm h2)]; exact h5, h6⟩
theorem Pen.new (h : Pen H p c ns n) (hq : H q = none) : Pen (L2.upd H q o) p c ns n := by
  obtain ⟨t, l, h3, h4⟩ := h.d
  exact h.upd (Ne.symm (ne_of_none h3 hq)) (Ne.symm (ne_of_none h.cells hq))
theorem Pen.same (h : Pen H p c ns n) (k : Same H H') : Pen H' p c ns n := by
  obtain ⟨⟨t, l, h3, h4⟩, h5, h6⟩ := h
  exact ⟨⟨t, l, k _ _ h3, h4⟩, k _ _ h5, h6⟩
theorem Pen.mono {m : Nat} (h : Pen H p c ns n) (k : n ≤ m) : Pen H p c ns m := by
  obtain ⟨⟨t, l, h3, h4, h5⟩, h6, h7⟩ := h
  exact ⟨⟨t, l, h3, h4, by omega⟩, h6, h7⟩
theorem Pen.there (h : Pen H p c ns n) : ∃ o, H p = some o := let ⟨t, l, e, _⟩ := h.d; ⟨_, e⟩
theorem Pen.dput (h : Pen H p c ns n) (h0 : 0 ≤ t) (h1 : t ≤ (n : Int)) : Pen (L2.upd H p (.dK (penD c t l))) p c ns n :=
  ⟨⟨t, l, upd_same, h0, h1⟩, by rw [upd_ne h.ne]; exact h.cells, h.len⟩
end
end L2.Ev
namespace L2.Ev
open PySem PySem.Spec PyProof.Rows
/-- a statement whose ways meet behind it -/
def tJoin (t u : TS) : TS := fun D σ H => ∃ R : St → Hp → Prop, t ⟨R, D.rt, D.bk, D.ct⟩ σ H ∧ ∀ σ' H', R σ' H' → u D σ' H'
theorem pss_join {X : Cx} {st : Stmt} {rest : List Stmt} {t u : TS} (h1 : PS X st t) (h2 : PSs X rest u) : PSs X (st :: rest) (tJoin t u) := by
  refine ⟨fun pins s σ H D I ⟨R, ha, hb⟩ => ?_⟩
  refine wpAny_execs_cons (thn (h1.run pins s σ H ⟨R, D.rt, D.bk, D.ct⟩ I ha) fun f s2 z => ?_)
  rcases f with _ | _ | _ | y
  · obtain ⟨σ2, H2, J, z⟩ := z
    exact h2.run pins s2 σ2 H2 D J (hb σ2 H2 z)
  all_goals exact z
end L2.Ev
namespace L2.Ev
open PySem PySem.Spec PyProof.Rows
/-! ### rules with the written part named: within a comprehension's block -/
section
variable {X : Cx} {K : PySem.W.Frag}
def rListOf (K : PySem.W.Frag) : List V → Hp → VK → Prop := fun xs H Q => ∃ p ys, xs = [.ref p] ∧ (SqL K H p ys ∨ SqT K H p ys) ∧ ∀ l, H l = none → Q (.ref l) (L2.upd H l (.lst ys))
theorem list_ofK (hK : X.K = K := by rfl) : CallR X (.type "list") (rListOf K) := by
  subst hK
  exact call_list_of
def rLenOf (K : PySem.W.Frag) : List V → Hp → VK → Prop := fun xs H Q => ∃ p ys, xs = [.ref p] ∧ (SqL K H p ys ∨ SqT K H p ys) ∧ Q (.int ys.length) H
theorem len_ofK (hK : X.K = K := by rfl) : CallR X (.builtin "len") (rLenOf K) := by
  subst hK
  exact call_len_seq
theorem ix_listK (hK : X.K = K := by rfl) : IxR X (rIxL K) := by
  subst hK
  exact ix_list
theorem ix_tupK (hK : X.K = K := by rfl) : IxR X (rIxT K) := by
  subst hK
  exact ix_tup
theorem sl_listK (hK : X.K = K := by rfl) : SlR X (rSlL K) := by
  subst hK
  exact sl_list
theorem op_eqDK (hu : X.A.units + 64 < cLine) (hK : X.K = K := by rfl) : OpR X (compareOp .Eq) (rEqD K) := by
  subst hK
  exact op_eqD hu
theorem op_neDK (hu : X.A.units + 64 < cLine) (hK : X.K = K := by rfl) : OpR X (compareOp .NotEq) (rNeD K) := by
  subst hK
  exact op_neD hu
theorem op_inK (hK : X.K = K := by rfl) : OpR X (compareOp .In) (rIn K false) := by
  subst hK
  exact op_in_seq
theorem op_notInK (hK : X.K = K := by rfl) : OpR X (compareOp .NotIn) (rIn K true) := by
  subst hK
  exact op_notIn_seq
end
end L2.Ev
set_option maxHeartbeats 2000000
/-! The rules that lay a new object, said by what stands behind: all as before, and the new object. -/
namespace L2.Ev
open PySem PySem.Spec PyProof.Rows
theorem OpR.give {X : Cx} {f : Value → Value → Sem Value} {r r' : R2} (h : OpR X f r) (k : ∀ x y H Q, r' x y H Q → r x y H Q) : OpR X f r' :=
  fun pins s σ H x y v u Q I rx ry q => h pins s σ H x y v u Q I rx ry (k _ _ _ _ q)
theorem CallR.give {X : Cx} {f : Value} {r r' : List V → Hp → VK → Prop} (h : CallR X f r) (k : ∀ xs H Q, r' xs H Q → r xs H Q) : CallR X f r' :=
  fun pins s σ H xs us Q I rx q => h pins s σ H xs us Q I rx (k _ _ _ q)
/-- behind: all as it was, and o at p -/
def Lays (H : Hp) (o : HO) (Q : VK) : Prop := ∀ p H', H p = none → Same H H' → H' p = some o → Q (.ref p) H'
theorem Lays.at {H : Hp} {o : HO} {Q : VK} (h : Lays H o Q) (p : Addr) (n : H p = none) : Q (.ref p) (L2.upd H p o) := h p _ n (Same.new (Same.refl H) n) upd_same
section
variable {X : Cx} {K : PySem.W.Frag} {es : List Expr} {t : TA} {pos : Pos}
def tLstS (t : TA) : TE := fun σ H Q => t σ H fun xs H1 => xs.length ≤ sizeLine ∧ Lays H1 (.lst xs) Q
def tTupS (t : TA) : TE := fun σ H Q => t σ H fun xs H1 => xs.length ≤ sizeLine ∧ Lays H1 (.tup xs) Q
theorem pe_tupS {x1} (h : PA X es t) : PE X (.Tuple es x1 pos) (tTupS t) := by
  refine ⟨fun pins s σ H Q I hq => ?_⟩
  refine wpAny_Tuple_spliced (thn (h.run pos pins s σ H _ I hq) fun us s1 ⟨xs, H1, J, rl, hz, q⟩ => ⟨by rw [← rl.length]; exact hz, ?_⟩)
  exact ⟨_, _, J.laid (t' := s1.toks) (o := .tup xs) (fun b u z => Heap.get?_push_of_some _ z) (Nat.le_refl _) (show ObjOk _ _ _ _ _ (.tup xs) from ⟨hz, us, rl, ⟨_, Heap.get?_push_size _ rfl, rfl, _, rfl⟩⟩), (show RelV (.ref s1.heap.objs.size) _ from rfl), q.at _ (J.hok.fresh (Nat.le_refl _))⟩
theorem pe_lstS (h : PA X es t) : PE X (.List es pos) (tLstS t) := by
  refine ⟨fun pins s σ H Q I hq => ?_⟩
  refine wpAny_List_spliced (thn (h.run pos pins s σ H _ I hq) fun us s1 ⟨xs, H1, J, rl, hz, q⟩ => ⟨by rw [← rl.length]; exact hz, ?_⟩)
  exact ⟨_, _, J.laid (t' := s1.toks) (o := .lst xs) (fun b u z => Heap.get?_push_of_some _ z) (Nat.le_refl _) (show ObjOk _ _ _ _ _ (.lst xs) from ⟨hz, us, 0, rl, Heap.get?_push_size _ rfl⟩), (show RelV (.ref s1.heap.objs.size) _ from rfl), q.at _ (J.hok.fresh (Nat.le_refl _))⟩
def rCatS : R2 := fun x y H Q => ∃ l b xs zs, x = .ref l ∧ y = .ref b ∧ H l = some (.lst xs) ∧ H b = some (.lst zs) ∧ xs.length + zs.length ≤ sizeLine ∧ Lays H (.lst (xs ++ zs)) Q
theorem op_catS : OpR X (binaryOp .Add) rCatS := OpR.give op_cat fun x y H Q ⟨l, b, xs, zs, h1, h2, h3, h4, h5, q⟩ => ⟨l, b, xs, zs, h1, h2, h3, h4, h5, fun p n => q.at p n⟩
def rListS (K : PySem.W.Frag) : List V → Hp → VK → Prop := fun xs H Q => ∃ p ys, xs = [.ref p] ∧ (SqL K H p ys ∨ SqT K H p ys) ∧ Lays H (.lst ys) Q
theorem list_ofS (hK : X.K = K := by rfl) : CallR X (.type "list") (rListS K) := CallR.give (list_ofK hK) fun xs H Q ⟨p, ys, h1, h2, q⟩ => ⟨p, ys, h1, h2, fun p n => q.at p n⟩
def rCutS (K : PySem.W.Frag) : V → Option Int → Option Int → Hp → VK → Prop := fun x lo hi H Q => ∃ a xs, x = .ref a ∧ SqL K H a xs ∧ Lays H (.lst (cutV xs lo hi)) Q
theorem sl_listS (hK : X.K = K := by rfl) : SlR X (rCutS K) := fun pins s σ H x v vl vu lo hi sl Q I rx hs pl pu ⟨a, xs, h1, h2, q⟩ => sl_listK hK pins s σ H x v vl vu lo hi sl Q I rx hs pl pu ⟨a, xs, h1, h2, fun p n => q.at p n⟩
end
/-! ### errors with fields -/
/-- an error of the class at C with the fields stands at a -/
def ErrAt (H : Hp) (a C : Addr) (fs : List (Str × V)) : Prop := ∃ dx, H a = some (exo a C (some dx)) ∧ H dx = some (exd dx fs)
theorem ErrAt.same {H H' : Hp} {a C : Addr} {fs : List (Str × V)} (e : ErrAt H a C fs) (s : Same H H') : ErrAt H' a C fs := let ⟨dx, h1, h2⟩ := e; ⟨dx, s _ _ h1, s _ _ h2⟩
theorem ErrAt.is {H : Hp} {a C : Addr} {fs : List (Str × V)} (e : ErrAt H a C fs) : IsEx H a C := let ⟨dx, h1, h2⟩ := e; .inl ⟨dx, _, h1, h2⟩
theorem lookup1 (f : Str) (v : V) : ([(f, v)] : List (Str × V)).lookup f = some v := by simp [List.lookup]
def sp_ini1 (C : Addr) (f : Str) : Sp := fun vs H Q _ => ∃ (a : Addr) (v : V), vs = [.ref a, v] ∧ H a = some (exo a C none) ∧
  ∀ dx, H dx = none → dx ≠ a → Q .non (L2.upd (L2.upd H dx (exd dx [(f, v)])) a (exo a C (some dx)))
/-- C(e), an error with one field -/
def tMk1 (C : Addr) (f : Str) (te : TE) : TE := fun σ H Q => te σ H fun v H1 => ∀ a H', H1 a = none → Same H1 H' → ErrAt H' a C [(f, v)] → Q (.ref a) H'
theorem pe_mk1 {X : Cx} {x : Str} {C fI : Addr} {k : Nat} {fd : FuncData} {ps : List Str} {f : Str} {e : Expr} {te : TE} {p pos : Pos} (T : OexC X.K C)
    (iC : PySem.W.findIn X.K (.ref C) "__init__" = some (some (.ref fI))) (tI : PySem.W.typeIn X.K (.ref fI) = some (.type "function"))
    (F1 : FnOk X.prog X.w X.K X.mg X.base CX0 k fI fd ps (sp_ini1 C f)) (hr : Room (k + 1) X.A) (hb : Binds X.K fd ps []) (hg : Gl X x) (hm : X.mg x = some (.ref C)) (ha : PE X e te)
    (hdb : (x == ("__debug__" : Str)) = false := by decide) (he : starEach [e] X.env = (false, eval e X.env) :: starEach [] X.env := by rfl) :
    PE X (.Call (.Name x p) [e] [] pos) (tMk1 C f te) := by
  refine ⟨fun pins s σ H Q I h => ?_⟩
  -- the argument's reading, with what is wanted of its value
  have R : PE X (.Call (.Name x p) [e] [] pos) (tMkV C (sp_ini1 C f) (tCons (fun σ' H' Q' => σ' = σ ∧ H' = H ∧ ∀ v H1, (∀ a H', H1 a = none → Same H1 H' → ErrAt H' a C [(f, v)] → Q (.ref a) H') → Q' v H1) tNil)) :=
    pe_mkV T iC tI F1 hr hb hg hm (pa_cons ⟨fun pins s σ' H' Q' I' ⟨e1, e2, q⟩ => by
      subst e1 e2
      exact thn (ha.run pins s _ _ _ I' h) fun v s1 ⟨y, H1, J, r, z⟩ => ⟨y, H1, J, r, q y H1 z⟩⟩ pa_nil he) hdb he (by rfl)
  refine R.run pins s σ H Q I ⟨rfl, rfl, fun v H1 z => ?_⟩
  refine ⟨by show 1 ≤ 1000; decide, fun a h1 => ⟨a, v, rfl, upd_same, fun dx h2 ne => ⟨rfl, ?_⟩⟩⟩
  have hd : H1 dx = none := by
    rw [upd_ne ne] at h2
    exact h2
  exact z a _ h1 (Same.own (Same.own (Same.own (Same.refl H1) h1) hd) h1) ⟨dx, upd_same, by rw [upd_ne ne, upd_same]⟩
/-- C() -/
theorem pe_mk0 {X : Cx} {C : Addr} {bmB : List Value} {B newId initId : String} {x : Str} {p pos : Pos} (F : ExcBaseFacts B newId initId bmB) (q : PySem.W.excIn X.K C bmB newId = true) (gC : X.mg x = some (.ref C)) (kC : PySem.W.keepIn X.K (.ref C) = true) (hg : Gl X x)
    (hdb : (x == ("__debug__" : Str)) = false := by decide) :
    PE X (.Call (.Name x p) [] [] pos) (fun _ H Q => ∀ a H', H a = none → Same H H' → IsEx H' a C → Q (.ref a) H') :=
  ⟨fun pins s σ H Q I h => (pe_mkV0 F q gC kC hg hdb).run pins s σ H Q I fun a n => h a _ n (Same.new (Same.refl H) n) (.inr upd_same)⟩
/-- what a reading gives, closed upward -/
def up (te : TE) : TE := fun σ H Q => ∃ P : VK, te σ H P ∧ ∀ v H', P v H' → Q v H'
theorem pe_up {X : Cx} {e : Expr} {te : TE} (h : PE X e te) : PE X e (up te) :=
  ⟨fun pins s σ H Q I ⟨P, hP, k⟩ => thn (h.run pins s σ H P I hP) fun v s1 ⟨y, H1, J, r, z⟩ => ⟨y, H1, J, r, k y H1 z⟩⟩
/-! ### a list comprehension that only lays new things -/
theorem lc_grow {J : It} {n : Nat} {g : TG} {tt : TT} {te : TE} {vs : List Nat} {σ : St} {H1 : Hp} {D : Addr} {Qd : Hp → Prop} (hD : H1 D = none) (R : Nat → List V → Hp → Prop)
    (mono : ∀ i acc H o, R i acc H → (∃ u, H D = some (.lst u)) → R i acc (L2.upd H D o)) (h0 : ∀ H, Same H1 H → R 0 [] H)
    (hgo : ∀ i H, i < n → Same H1 H → J.go i H) (hst : ∀ H, Same H1 H → J.stop n H) (hn : n < sizeLine)
    (hs : ∀ i acc H (F : V → Hp → Prop) (G : Hp → Prop), (∀ y H4, Same H H4 → R (i + 1) (acc ++ [y]) H4 → F y H4) → (∀ H3, Same H H3 → R (i + 1) acc H3 → G H3) →
      i < n → Same H1 H → H D = some (.lst acc) → R i acc H → ∀ x H', J.yld i H x H' → g x (wipe σ vs) H' fun σ2 H2 => wipe σ2 vs = wipe σ vs ∧ tt σ2 H2 fun b H3 => if b = true then te σ2 H3 F else G H3)
    (hd : ∀ acc H, Same H1 H → H D = some (.lst acc) → R n acc H → Qd H) :
    ∃ W : Nat → Nat → Hp → Prop, (∃ m, W 0 m (L2.upd H1 D (.lst []))) ∧ ∀ i m H, W i m H → (J.stop i H ∧ Qd H) ∨ (J.go i H ∧ ∃ Nx : Hp → Prop, (∀ H', Nx H' → ∃ m', m' < m ∧ W (i + 1) m' H') ∧
      ∀ x H', J.yld i H x H' → g x (wipe σ vs) H' fun σ2 H2 => wipe σ2 vs = wipe σ vs ∧ tt σ2 H2 fun b H3 =>
        if b = true then te σ2 H3 fun y H4 => ∃ acc, H4 D = some (.lst acc) ∧ acc.length < sizeLine ∧ Nx (L2.upd H4 D (.lst (acc ++ [y]))) else Nx H3) := by
  refine ⟨fun i m H => i + m = n ∧ Same H1 H ∧ ∃ acc, H D = some (.lst acc) ∧ acc.length ≤ i ∧ R i acc H, ⟨n, by omega, Same.new (Same.refl H1) hD, [], upd_same, Nat.le_refl 0, h0 _ (Same.new (Same.refl H1) hD)⟩, ?_⟩
  rintro i m H ⟨e, s1, acc, ha, hl, r⟩
  rcases Nat.lt_or_ge i n with hi | hi
  · refine .inr ⟨hgo i H hi s1, fun H' => Same H1 H' ∧ ∃ acc, H' D = some (.lst acc) ∧ acc.length ≤ i + 1 ∧ R (i + 1) acc H', fun H' q => ⟨m - 1, by omega, by omega, q⟩, fun x H' y => ?_⟩
    refine hs i acc H _ _ (fun y H4 t z => ?_) (fun H3 t z => ⟨s1.trans t, acc, t _ _ ha, by omega, z⟩) hi s1 ha r x H' y
    have e4 := t _ _ ha
    exact ⟨acc, e4, Nat.lt_of_le_of_lt hl (Nat.lt_trans hi hn), Same.own (s1.trans t) hD, acc ++ [y], upd_same, by rw [List.length_append]; simp; omega, mono _ _ _ _ z ⟨_, e4⟩⟩
  · have z : i = n := by omega
    subst z
    exact .inl ⟨hst H s1, hd acc H s1 ha r⟩
end L2.Ev
namespace L2.Ev
open PySem PySem.Spec PyProof.Rows
section
variable {X : Cx}
def rAppendS : V → List V → Hp → VK → Prop := fun x vs H Q => ∃ l xs y, x = .ref l ∧ vs = [y] ∧ H l = some (.lst xs) ∧ xs.length < sizeLine ∧ ∀ H', But l H H' → H' l = some (.lst (xs ++ [y])) → Q .non H'
theorem mt_appendS : MtR X "list.append" rAppendS := fun pins s σ H x v vs us Q I rx rv ⟨l, xs, y, h1, h2, h3, h4, q⟩ =>
  mt_append pins s σ H x v vs us Q I rx rv ⟨l, xs, y, h1, h2, h3, h4, q _ (But.self (But.refl l H)) upd_same⟩
end
theorem Same.but {B H H' : Hp} {l : Addr} (s : Same B H) (n : B l = none) (b : But l H H') : Same B H' := fun c o e => b c o (fun z => by rw [z, n] at e; cases e) (s c o e)
theorem wipe1 (σ : St) (i : Nat) (x : V) : wipe ((wipe σ [i]).set i (some x)) [i] = wipe σ [i] := by
  show ((σ.set i none).set i (some x)).set i none = σ.set i none
  rw [List.set_set, List.set_set]
theorem wiped (σ : St) (i : Nat) (x : V) (h : i < σ.length) : ((wipe σ [i]).set i (some x))[i]? = some (some x) := by
  show ((σ.set i none).set i (some x))[i]? = some (some x)
  rw [List.getElem?_set_self (by rw [List.length_set]; exact h)]
theorem wiped_ne (σ : St) (i j : Nat) (x : V) (h : i ≠ j) : ((wipe σ [i]).set i (some x))[j]? = σ[j]? := by
  show ((σ.set i none).set i (some x))[j]? = σ[j]?
  rw [List.getElem?_set_ne h, List.getElem?_set_ne h]
theorem exo_lst {e C : Addr} {d : Option Addr} {xs : List V} : exo e C d ≠ .lst xs := fun z => by
  have z' : HO.ext _ = HO.lst xs := z
  cases z'
theorem exd_lst {e : Addr} {fs : List (Str × V)} {xs : List V} : exd e fs ≠ .lst xs := fun z => by
  have z' : HO.ext _ = HO.lst xs := z
  cases z'
theorem exO_lst {e : Addr} {c : Value} {xs : List V} : ExO c e ≠ .lst xs := fun z => by
  have z' : HO.ext _ = HO.lst xs := z
  cases z'
/-- a list is no error, nor an error's dict -/
theorem IsEx.off {H : Hp} {a C f : Addr} {xs : List V} {o : HO} (e : IsEx H a C) (h : H f = some (.lst xs)) : IsEx (L2.upd H f o) a C := by
  rcases e with ⟨dx, fs, h1, h2⟩ | h1
  · exact .inl ⟨dx, fs, by rw [upd_ne (ne_of h1 h exo_lst)]; exact h1, by rw [upd_ne (ne_of h2 h exd_lst)]; exact h2⟩
  · exact .inr (by rw [upd_ne (ne_of h1 h exO_lst)]; exact h1)
theorem ErrAt.off {H : Hp} {a C f : Addr} {xs : List V} {o : HO} {fs : List (Str × V)} (e : ErrAt H a C fs) (h : H f = some (.lst xs)) : ErrAt (L2.upd H f o) a C fs := by
  obtain ⟨dx, h1, h2⟩ := e
  exact ⟨dx, by rw [upd_ne (ne_of h1 h exo_lst)]; exact h1, by rw [upd_ne (ne_of h2 h exd_lst)]; exact h2⟩
/-- [C(x) for x in xs], C an error with one field -/
theorem lc_errs {K : PySem.W.Frag} {C a : Addr} {f : Str} {i j : Nat} {xs : List V} {σ : St} {H : Hp} {Q : VK} (hi : σ[i]? = some (some (.ref a))) (hj : j < σ.length) (ha : H a = some (.lst xs)) (hl : xs.length < sizeLine)
    (k : ∀ (D : Addr) (H' : Hp) (es : List Addr), H D = none → Same H H' → H' D = some (.lst (es.map V.ref)) → es.length = xs.length → (∀ (n : Nat) e x, es[n]? = some e → xs[n]? = some x → ErrAt H' e C [(f, x)]) → Q (.ref D) H') :
    tLc (iList K (tVar i)) (gName j) tYes (tMk1 C f (tVar j)) [j] σ H Q := by
  refine ⟨_, hi, a, rfl, ⟨_, SqL.of ha⟩, fun D hD => ?_⟩
  refine lc_grow (n := xs.length) hD (fun m acc H' => ∃ es : List Addr, acc = es.map V.ref ∧ es.length = m ∧ ∀ (n : Nat) e x, es[n]? = some e → xs[n]? = some x → ErrAt H' e C [(f, x)]) ?_ ?_ ?_ ?_ hl ?_ ?_
  · rintro m acc H' o ⟨es, e1, e2, e3⟩ ⟨u, hu⟩
    exact ⟨es, e1, e2, fun n e x h1 h2 => (e3 n e x h1 h2).off hu⟩
  · intro H' _
    exact ⟨[], rfl, rfl, fun n e x h1 => absurd h1 (by simp)⟩
  · intro m H' hm s
    exact ⟨xs, xs[m], SqL.of (s _ _ ha), by simp [hm]⟩
  · intro H' s
    exact ⟨xs, SqL.of (s _ _ ha), Nat.le_refl _⟩
  · rintro m acc H' F G hF hG hm s hacc ⟨es, e1, e2, e3⟩ x H2 ⟨rfl, hx⟩
    have hx' := hx xs (SqL.of (s _ _ ha))
    refine ⟨wipe1 σ j x, ?_⟩
    refine ⟨_, wiped σ j x hj, fun e H3 he s3 hE => hF _ _ s3 ?_⟩
    refine ⟨es ++ [e], by rw [e1, List.map_append]; rfl, by rw [List.length_append, e2]; rfl, fun n e' x' h1 h2 => ?_⟩
    rcases Nat.lt_or_ge n es.length with z | z
    · rw [List.getElem?_append_left z] at h1
      exact (e3 n e' x' h1 h2).same s3
    · have hn : n = m := by
        have q := (List.getElem?_eq_some_iff.mp h1).1
        rw [List.length_append] at q
        simp at q
        omega
      subst hn
      rw [List.getElem?_append_right z, e2, Nat.sub_self] at h1
      cases h1
      rw [hx'] at h2
      cases h2
      exact hE
  · rintro acc H' s hacc ⟨es, e1, e2, e3⟩
    exact k D H' es hD s (e1 ▸ hacc) e2 e3
end L2.Ev
namespace L2.Ev
open PySem PySem.Spec PyProof.Rows
/-! ### from a block's reading to the reading of its next piece -/
section
variable {t u : TS} {D : Ends} {σ : St} {H : Hp} {i j : Nat} {v : V} {P : St → Hp → Prop} {ta : TA} {te : TE} {tr : TA} {QA : List V → Hp → Prop} {g : TG} {Q : VK}
theorem in_name (h : P (σ.set i (some v)) H) : gName i v σ H P := h
theorem in_seq (h : t { D with nx := u D } σ H) : tSeq t u D σ H := h
theorem in_par (h : ta σ H fun vs H1 => ∃ v w, vs = [v, w] ∧ D.nx ((σ.set i (some v)).set j (some w)) H1) : tPar i j ta D σ H := h
theorem in_cons (h : te σ H fun x H1 => tr σ H1 fun xs H2 => QA (x :: xs) H2) : tCons te tr σ H QA := h
theorem in_nil (h : QA [] H) : tNil σ H QA := h
theorem in_asg (h : te σ H fun x H1 => g x σ H1 D.nx) : tAsg te g D σ H := h
theorem in_ret (h : te σ H D.rt) : tRet te D σ H := h
theorem in_drop (h : te σ H fun _ H1 => D.nx σ H1) : tDrop te D σ H := h
theorem in_next (h : D.nx σ H) : tNext D σ H := h
end
end L2.Ev
namespace L2.Ev
open PySem PySem.Spec PyProof.Rows
/-- as lc_grow, but an object at p may change on the way -/
theorem lc_growB {J : It} {n : Nat} {g : TG} {tt : TT} {te : TE} {vs : List Nat} {σ : St} {H1 : Hp} {D p : Addr} {Qd : Hp → Prop} (hD : H1 D = none) (hp : D ≠ p) (R : Nat → List V → Hp → Prop)
    (mono : ∀ i acc H o, R i acc H → (∃ u, H D = some (.lst u)) → R i acc (L2.upd H D o)) (h0 : ∀ H, Same H1 H → R 0 [] H)
    (hgo : ∀ i H, i < n → But p H1 H → J.go i H) (hst : ∀ H, But p H1 H → J.stop n H) (hn : n < sizeLine)
    (hs : ∀ i acc H (F : V → Hp → Prop) (G : Hp → Prop), (∀ y H4, But p H H4 → R (i + 1) (acc ++ [y]) H4 → F y H4) → (∀ H3, But p H H3 → R (i + 1) acc H3 → G H3) →
      i < n → But p H1 H → H D = some (.lst acc) → R i acc H → ∀ x H', J.yld i H x H' → g x (wipe σ vs) H' fun σ2 H2 => wipe σ2 vs = wipe σ vs ∧ tt σ2 H2 fun b H3 => if b = true then te σ2 H3 F else G H3)
    (hd : ∀ acc H, But p H1 H → H D = some (.lst acc) → R n acc H → Qd H) :
    ∃ W : Nat → Nat → Hp → Prop, (∃ m, W 0 m (L2.upd H1 D (.lst []))) ∧ ∀ i m H, W i m H → (J.stop i H ∧ Qd H) ∨ (J.go i H ∧ ∃ Nx : Hp → Prop, (∀ H', Nx H' → ∃ m', m' < m ∧ W (i + 1) m' H') ∧
      ∀ x H', J.yld i H x H' → g x (wipe σ vs) H' fun σ2 H2 => wipe σ2 vs = wipe σ vs ∧ tt σ2 H2 fun b H3 =>
        if b = true then te σ2 H3 fun y H4 => ∃ acc, H4 D = some (.lst acc) ∧ acc.length < sizeLine ∧ Nx (L2.upd H4 D (.lst (acc ++ [y]))) else Nx H3) := by
  refine ⟨fun i m H => i + m = n ∧ But p H1 H ∧ ∃ acc, H D = some (.lst acc) ∧ acc.length ≤ i ∧ R i acc H, ⟨n, by omega, But.new (But.refl p H1) hD, [], upd_same, Nat.le_refl 0, h0 _ (Same.new (Same.refl H1) hD)⟩, ?_⟩
  rintro i m H ⟨e, s1, acc, ha, hl, r⟩
  rcases Nat.lt_or_ge i n with hi | hi
  · refine .inr ⟨hgo i H hi s1, fun H' => But p H1 H' ∧ ∃ acc, H' D = some (.lst acc) ∧ acc.length ≤ i + 1 ∧ R (i + 1) acc H', fun H' q => ⟨m - 1, by omega, by omega, q⟩, fun x H' y => ?_⟩
    refine hs i acc H _ _ (fun y H4 t z => ?_) (fun H3 t z => ⟨s1.trans t, acc, t _ _ hp ha, by omega, z⟩) hi s1 ha r x H' y
    have e4 := t _ _ hp ha
    exact ⟨acc, e4, Nat.lt_of_le_of_lt hl (Nat.lt_trans hi hn), But.own (s1.trans t) hD, acc ++ [y], upd_same, by rw [List.length_append]; simp; omega, mono _ _ _ _ z ⟨_, e4⟩⟩
  · have z : i = n := by omega
    subst z
    exact .inl ⟨hst H s1, hd acc H s1 ha r⟩
end L2.Ev
set_option maxHeartbeats 2000000
namespace L2.Pf
open PySem PySem.Spec PyProof.Rows L2.Ev
def topS (i : Nat) : Stmt := PySem.Challenge.pw_lookuploops_k43_errors.main.body.getD i (.Pass ⟨0, 0, 0, 0⟩)
abbrev s_BadTables_init : Stmt := inClass (topS 2) 0
abbrev n_BadTables_init : List Str := ["self", "table"]
abbrev p_BadTables_init : List Str := ["self", "table"]
theorem sc_BadTables_init : FnScope n_BadTables_init p_BadTables_init (defScope s_BadTables_init) := ⟨rfl, rfl, rfl, by decide +kernel, rfl, by decide +kernel, by decide +kernel⟩
abbrev s_BadFact_init : Stmt := inClass (topS 3) 0
abbrev n_BadFact_init : List Str := ["self", "index"]
abbrev p_BadFact_init : List Str := ["self", "index"]
theorem sc_BadFact_init : FnScope n_BadFact_init p_BadFact_init (defScope s_BadFact_init) := ⟨rfl, rfl, rfl, by decide +kernel, rfl, by decide +kernel, by decide +kernel⟩
abbrev s_BadProgram_init : Stmt := inClass (topS 4) 0
abbrev n_BadProgram_init : List Str := ["self", "line"]
abbrev p_BadProgram_init : List Str := ["self", "line"]
theorem sc_BadProgram_init : FnScope n_BadProgram_init p_BadProgram_init (defScope s_BadProgram_init) := ⟨rfl, rfl, rfl, by decide +kernel, rfl, by decide +kernel, by decide +kernel⟩
abbrev s_NoLine_init : Stmt := inClass (topS 6) 0
abbrev n_NoLine_init : List Str := ["self", "line"]
abbrev p_NoLine_init : List Str := ["self", "line"]
theorem sc_NoLine_init : FnScope n_NoLine_init p_NoLine_init (defScope s_NoLine_init) := ⟨rfl, rfl, rfl, by decide +kernel, rfl, by decide +kernel, by decide +kernel⟩
abbrev s_NoKey_init : Stmt := inClass (topS 7) 0
abbrev n_NoKey_init : List Str := ["self", "line"]
abbrev p_NoKey_init : List Str := ["self", "line"]
theorem sc_NoKey_init : FnScope n_NoKey_init p_NoKey_init (defScope s_NoKey_init) := ⟨rfl, rfl, rfl, by decide +kernel, rfl, by decide +kernel, by decide +kernel⟩
abbrev s_NoName_init : Stmt := inClass (topS 8) 0
abbrev n_NoName_init : List Str := ["self", "name"]
abbrev p_NoName_init : List Str := ["self", "name"]
theorem sc_NoName_init : FnScope n_NoName_init p_NoName_init (defScope s_NoName_init) := ⟨rfl, rfl, rfl, by decide +kernel, rfl, by decide +kernel, by decide +kernel⟩
abbrev s_BadName_init : Stmt := inClass (topS 9) 0
abbrev n_BadName_init : List Str := ["self", "name"]
abbrev p_BadName_init : List Str := ["self", "name"]
theorem sc_BadName_init : FnScope n_BadName_init p_BadName_init (defScope s_BadName_init) := ⟨rfl, rfl, rfl, by decide +kernel, rfl, by decide +kernel, by decide +kernel⟩
abbrev s_Taken_init : Stmt := inClass (topS 10) 0
abbrev n_Taken_init : List Str := ["self", "name"]
abbrev p_Taken_init : List Str := ["self", "name"]
theorem sc_Taken_init : FnScope n_Taken_init p_Taken_init (defScope s_Taken_init) := ⟨rfl, rfl, rfl, by decide +kernel, rfl, by decide +kernel, by decide +kernel⟩
abbrev s_NotAlike_init : Stmt := inClass (topS 11) 0
abbrev n_NotAlike_init : List Str := ["self", "name", "tables"]
abbrev p_NotAlike_init : List Str := ["self", "name", "tables"]
theorem sc_NotAlike_init : FnScope n_NotAlike_init p_NotAlike_init (defScope s_NotAlike_init) := ⟨rfl, rfl, rfl, by decide +kernel, rfl, by decide +kernel, by decide +kernel⟩
abbrev s_Rests_init : Stmt := inClass (topS 12) 0
abbrev n_Rests_init : List Str := ["self", "name", "tables"]
abbrev p_Rests_init : List Str := ["self", "name", "tables"]
theorem sc_Rests_init : FnScope n_Rests_init p_Rests_init (defScope s_Rests_init) := ⟨rfl, rfl, rfl, by decide +kernel, rfl, by decide +kernel, by decide +kernel⟩
abbrev s_BrokenFact_init : Stmt := inClass (topS 13) 0
abbrev n_BrokenFact_init : List Str := ["self", "fact"]
abbrev p_BrokenFact_init : List Str := ["self", "fact"]
theorem sc_BrokenFact_init : FnScope n_BrokenFact_init p_BrokenFact_init (defScope s_BrokenFact_init) := ⟨rfl, rfl, rfl, by decide +kernel, rfl, by decide +kernel, by decide +kernel⟩
abbrev s_copied : Stmt := topS 15
abbrev n_copied : List Str := ["tables", "table", "rows"]
abbrev p_copied : List Str := ["tables"]
theorem sc_copied : FnScope n_copied p_copied (defScope s_copied) := ⟨rfl, rfl, rfl, by decide +kernel, rfl, by decide +kernel, by decide +kernel⟩
abbrev s_begun_pen : Stmt := topS 17
abbrev n_begun_pen : List Str := ["_law_script"]
abbrev p_begun_pen : List Str := ["_law_script"]
theorem sc_begun_pen : FnScope n_begun_pen p_begun_pen (defScope s_begun_pen) := ⟨rfl, rfl, rfl, by decide +kernel, rfl, by decide +kernel, by decide +kernel⟩
abbrev s_draw : Stmt := topS 18
abbrev n_draw : List Str := ["_law_pen", "_law_span", "_law_digit", "_law_turn", "_law_cell", "_law_mixed"]
abbrev p_draw : List Str := ["_law_pen", "_law_span"]
theorem sc_draw : FnScope n_draw p_draw (defScope s_draw) := ⟨rfl, rfl, rfl, by decide +kernel, rfl, by decide +kernel, by decide +kernel⟩
abbrev s_shuffled : Stmt := topS 19
abbrev n_shuffled : List Str := ["_law_pen", "_law_items", "_law_rest", "_law_found"]
abbrev p_shuffled : List Str := ["_law_pen", "_law_items"]
theorem sc_shuffled : FnScope n_shuffled p_shuffled (defScope s_shuffled) := ⟨rfl, rfl, rfl, by decide +kernel, rfl, by decide +kernel, by decide +kernel⟩
abbrev s_new_names : Stmt := topS 20
abbrev n_new_names : List Str := ["_law_pen", "_law_many", "_law_found"]
abbrev p_new_names : List Str := ["_law_pen", "_law_many"]
theorem sc_new_names : FnScope n_new_names p_new_names (defScope s_new_names) := ⟨rfl, rfl, rfl, by decide +kernel, rfl, by decide +kernel, by decide +kernel⟩
abbrev s_new_integer : Stmt := topS 21
abbrev n_new_integer : List Str := ["_law_pen"]
abbrev p_new_integer : List Str := ["_law_pen"]
theorem sc_new_integer : FnScope n_new_integer p_new_integer (defScope s_new_integer) := ⟨rfl, rfl, rfl, by decide +kernel, rfl, by decide +kernel, by decide +kernel⟩
abbrev s_classes : Stmt := topS 22
abbrev n_classes : List Str := ["_law_e", "_law_found", "_law_k"]
abbrev p_classes : List Str := ["_law_e"]
theorem sc_classes : FnScope n_classes p_classes (defScope s_classes) := ⟨rfl, rfl, rfl, by decide +kernel, rfl, by decide +kernel, by decide +kernel⟩
abbrev s_numbered : Stmt := topS 23
abbrev n_numbered : List Str := ["_law_pen", "_law_one", "_law_two", "_law_facts", "_law_programs", "_law_lines", "_law_keys", "_law_found", "_law_k", "_law_number"]
abbrev p_numbered : List Str := ["_law_pen"]
theorem sc_numbered : FnScope n_numbered p_numbered (defScope s_numbered) := ⟨rfl, rfl, rfl, by decide +kernel, rfl, by decide +kernel, by decide +kernel⟩
abbrev s_texted : Stmt := topS 24
abbrev n_texted : List Str := ["_law_pen", "_law_texts", "_law_tables", "_law_names", "_law_text", "_law_bad", "_law_taken", "_law_broken", "_law_found", "_law_k"]
abbrev p_texted : List Str := ["_law_pen"]
theorem sc_texted : FnScope n_texted p_texted (defScope s_texted) := ⟨rfl, rfl, rfl, by decide +kernel, rfl, by decide +kernel, by decide +kernel⟩
abbrev s_shown : Stmt := topS 25
abbrev n_shown : List Str := ["_law_pen", "_law_names", "_law_found", "_law_rows", "_law_k", "_law_parted", "_law_rests", "_law_due"]
abbrev p_shown : List Str := ["_law_pen"]
theorem sc_shown : FnScope n_shown p_shown (defScope s_shown) := ⟨rfl, rfl, rfl, by decide +kernel, rfl, by decide +kernel, by decide +kernel⟩
abbrev s_law : Stmt := topS 26
abbrev n_law : List Str := ["_law_script", "_law_pen", "_law_turn"]
abbrev p_law : List Str := ["_law_script"]
theorem sc_law : FnScope n_law p_law (defScope s_law) := ⟨rfl, rfl, rfl, by decide +kernel, rfl, by decide +kernel, by decide +kernel⟩
/-- what the top has left -/
structure TX (K : PySem.W.Frag) (mg : Str → Option Value) where
  z_isinstance : mg "isinstance" = none
  z_dict : mg "dict" = none
  z_list : mg "list" = none
  z_int : mg "int" = none
  z_len : mg "len" = none
  z_abs : mg "abs" = none
  z_ValueError : mg "ValueError" = none
  z_range : mg "range" = none
  x_LookError : XC K mg "LookError" [.type "ValueError", .type "Exception", .type "BaseException", .type "object"]
  e_LookError : PySem.W.excIn K x_LookError.C [.type "ValueError", .type "Exception", .type "BaseException", .type "object"] "ValueError.__new__" = true
  x_BadTables : XC K mg "BadTables" [.ref x_LookError.C, .type "ValueError", .type "Exception", .type "BaseException", .type "object"]
  x_BadFact : XC K mg "BadFact" [.ref x_LookError.C, .type "ValueError", .type "Exception", .type "BaseException", .type "object"]
  x_BadProgram : XC K mg "BadProgram" [.ref x_LookError.C, .type "ValueError", .type "Exception", .type "BaseException", .type "object"]
  x_OtherTables : XC K mg "OtherTables" [.ref x_LookError.C, .type "ValueError", .type "Exception", .type "BaseException", .type "object"]
  e_OtherTables : PySem.W.excIn K x_OtherTables.C [.type "ValueError", .type "Exception", .type "BaseException", .type "object"] "ValueError.__new__" = true
  x_NoLine : XC K mg "NoLine" [.ref x_LookError.C, .type "ValueError", .type "Exception", .type "BaseException", .type "object"]
  x_NoKey : XC K mg "NoKey" [.ref x_LookError.C, .type "ValueError", .type "Exception", .type "BaseException", .type "object"]
  x_NoName : XC K mg "NoName" [.ref x_LookError.C, .type "ValueError", .type "Exception", .type "BaseException", .type "object"]
  x_BadName : XC K mg "BadName" [.ref x_LookError.C, .type "ValueError", .type "Exception", .type "BaseException", .type "object"]
  x_Taken : XC K mg "Taken" [.ref x_LookError.C, .type "ValueError", .type "Exception", .type "BaseException", .type "object"]
  x_NotAlike : XC K mg "NotAlike" [.ref x_LookError.C, .type "ValueError", .type "Exception", .type "BaseException", .type "object"]
  x_Rests : XC K mg "Rests" [.ref x_LookError.C, .type "ValueError", .type "Exception", .type "BaseException", .type "object"]
  x_BrokenFact : XC K mg "BrokenFact" [.ref x_LookError.C, .type "ValueError", .type "Exception", .type "BaseException", .type "object"]
  x_NothingToUndo : XC K mg "NothingToUndo" [.ref x_LookError.C, .type "ValueError", .type "Exception", .type "BaseException", .type "object"]
  e_NothingToUndo : PySem.W.excIn K x_NothingToUndo.C [.type "ValueError", .type "Exception", .type "BaseException", .type "object"] "ValueError.__new__" = true
  a_BadTables_init : Addr
  fd_BadTables_init : FuncData
  F_BadTables_init : Fun K "__init__" "BadTables.__init__" s_BadTables_init a_BadTables_init fd_BadTables_init
  b_BadTables_init : Binds K fd_BadTables_init p_BadTables_init []
  i_BadTables_init : PySem.W.findIn K (.ref x_BadTables.C) "__init__" = some (some (.ref a_BadTables_init))
  t_BadTables_init : PySem.W.typeIn K (.ref a_BadTables_init) = some (.type "function")
  f_BadTables_init_table : PySem.W.findIn K (.ref x_BadTables.C) "table" = some none
  a_BadFact_init : Addr
  fd_BadFact_init : FuncData
  F_BadFact_init : Fun K "__init__" "BadFact.__init__" s_BadFact_init a_BadFact_init fd_BadFact_init
  b_BadFact_init : Binds K fd_BadFact_init p_BadFact_init []
  i_BadFact_init : PySem.W.findIn K (.ref x_BadFact.C) "__init__" = some (some (.ref a_BadFact_init))
  t_BadFact_init : PySem.W.typeIn K (.ref a_BadFact_init) = some (.type "function")
  f_BadFact_init_index : PySem.W.findIn K (.ref x_BadFact.C) "index" = some none
  a_BadProgram_init : Addr
  fd_BadProgram_init : FuncData
  F_BadProgram_init : Fun K "__init__" "BadProgram.__init__" s_BadProgram_init a_BadProgram_init fd_BadProgram_init
  b_BadProgram_init : Binds K fd_BadProgram_init p_BadProgram_init []
  i_BadProgram_init : PySem.W.findIn K (.ref x_BadProgram.C) "__init__" = some (some (.ref a_BadProgram_init))
  t_BadProgram_init : PySem.W.typeIn K (.ref a_BadProgram_init) = some (.type "function")
  f_BadProgram_init_line : PySem.W.findIn K (.ref x_BadProgram.C) "line" = some none
  a_NoLine_init : Addr
  fd_NoLine_init : FuncData
  F_NoLine_init : Fun K "__init__" "NoLine.__init__" s_NoLine_init a_NoLine_init fd_NoLine_init
  b_NoLine_init : Binds K fd_NoLine_init p_NoLine_init []
  i_NoLine_init : PySem.W.findIn K (.ref x_NoLine.C) "__init__" = some (some (.ref a_NoLine_init))
  t_NoLine_init : PySem.W.typeIn K (.ref a_NoLine_init) = some (.type "function")
  f_NoLine_init_line : PySem.W.findIn K (.ref x_NoLine.C) "line" = some none
  a_NoKey_init : Addr
  fd_NoKey_init : FuncData
  F_NoKey_init : Fun K "__init__" "NoKey.__init__" s_NoKey_init a_NoKey_init fd_NoKey_init
  b_NoKey_init : Binds K fd_NoKey_init p_NoKey_init []
  i_NoKey_init : PySem.W.findIn K (.ref x_NoKey.C) "__init__" = some (some (.ref a_NoKey_init))
  t_NoKey_init : PySem.W.typeIn K (.ref a_NoKey_init) = some (.type "function")
  f_NoKey_init_line : PySem.W.findIn K (.ref x_NoKey.C) "line" = some none
  a_NoName_init : Addr
  fd_NoName_init : FuncData
  F_NoName_init : Fun K "__init__" "NoName.__init__" s_NoName_init a_NoName_init fd_NoName_init
  b_NoName_init : Binds K fd_NoName_init p_NoName_init []
  i_NoName_init : PySem.W.findIn K (.ref x_NoName.C) "__init__" = some (some (.ref a_NoName_init))
  t_NoName_init : PySem.W.typeIn K (.ref a_NoName_init) = some (.type "function")
  f_NoName_init_name : PySem.W.findIn K (.ref x_NoName.C) "name" = some none
  a_BadName_init : Addr
  fd_BadName_init : FuncData
  F_BadName_init : Fun K "__init__" "BadName.__init__" s_BadName_init a_BadName_init fd_BadName_init
  b_BadName_init : Binds K fd_BadName_init p_BadName_init []
  i_BadName_init : PySem.W.findIn K (.ref x_BadName.C) "__init__" = some (some (.ref a_BadName_init))
  t_BadName_init : PySem.W.typeIn K (.ref a_BadName_init) = some (.type "function")
  f_BadName_init_name : PySem.W.findIn K (.ref x_BadName.C) "name" = some none
  a_Taken_init : Addr
  fd_Taken_init : FuncData
  F_Taken_init : Fun K "__init__" "Taken.__init__" s_Taken_init a_Taken_init fd_Taken_init
  b_Taken_init : Binds K fd_Taken_init p_Taken_init []
  i_Taken_init : PySem.W.findIn K (.ref x_Taken.C) "__init__" = some (some (.ref a_Taken_init))
  t_Taken_init : PySem.W.typeIn K (.ref a_Taken_init) = some (.type "function")
  f_Taken_init_name : PySem.W.findIn K (.ref x_Taken.C) "name" = some none
  a_NotAlike_init : Addr
  fd_NotAlike_init : FuncData
  F_NotAlike_init : Fun K "__init__" "NotAlike.__init__" s_NotAlike_init a_NotAlike_init fd_NotAlike_init
  b_NotAlike_init : Binds K fd_NotAlike_init p_NotAlike_init []
  i_NotAlike_init : PySem.W.findIn K (.ref x_NotAlike.C) "__init__" = some (some (.ref a_NotAlike_init))
  t_NotAlike_init : PySem.W.typeIn K (.ref a_NotAlike_init) = some (.type "function")
  f_NotAlike_init_name : PySem.W.findIn K (.ref x_NotAlike.C) "name" = some none
  f_NotAlike_init_tables : PySem.W.findIn K (.ref x_NotAlike.C) "tables" = some none
  a_Rests_init : Addr
  fd_Rests_init : FuncData
  F_Rests_init : Fun K "__init__" "Rests.__init__" s_Rests_init a_Rests_init fd_Rests_init
  b_Rests_init : Binds K fd_Rests_init p_Rests_init []
  i_Rests_init : PySem.W.findIn K (.ref x_Rests.C) "__init__" = some (some (.ref a_Rests_init))
  t_Rests_init : PySem.W.typeIn K (.ref a_Rests_init) = some (.type "function")
  f_Rests_init_name : PySem.W.findIn K (.ref x_Rests.C) "name" = some none
  f_Rests_init_tables : PySem.W.findIn K (.ref x_Rests.C) "tables" = some none
  a_BrokenFact_init : Addr
  fd_BrokenFact_init : FuncData
  F_BrokenFact_init : Fun K "__init__" "BrokenFact.__init__" s_BrokenFact_init a_BrokenFact_init fd_BrokenFact_init
  b_BrokenFact_init : Binds K fd_BrokenFact_init p_BrokenFact_init []
  i_BrokenFact_init : PySem.W.findIn K (.ref x_BrokenFact.C) "__init__" = some (some (.ref a_BrokenFact_init))
  t_BrokenFact_init : PySem.W.typeIn K (.ref a_BrokenFact_init) = some (.type "function")
  f_BrokenFact_init_fact : PySem.W.findIn K (.ref x_BrokenFact.C) "fact" = some none
  a_copied : Addr
  fd_copied : FuncData
  F_copied : Fun K "_copied" "_copied" s_copied a_copied fd_copied
  b_copied : Binds K fd_copied p_copied []
  g_copied : mg "_copied" = some (.ref a_copied)
  a_begun_pen : Addr
  fd_begun_pen : FuncData
  F_begun_pen : Fun K "_law_begun_pen" "_law_begun_pen" s_begun_pen a_begun_pen fd_begun_pen
  b_begun_pen : Binds K fd_begun_pen p_begun_pen []
  g_begun_pen : mg "_law_begun_pen" = some (.ref a_begun_pen)
  a_draw : Addr
  fd_draw : FuncData
  F_draw : Fun K "_law_draw" "_law_draw" s_draw a_draw fd_draw
  b_draw : Binds K fd_draw p_draw []
  g_draw : mg "_law_draw" = some (.ref a_draw)
  a_shuffled : Addr
  fd_shuffled : FuncData
  F_shuffled : Fun K "_law_shuffled" "_law_shuffled" s_shuffled a_shuffled fd_shuffled
  b_shuffled : Binds K fd_shuffled p_shuffled []
  g_shuffled : mg "_law_shuffled" = some (.ref a_shuffled)
  a_new_names : Addr
  fd_new_names : FuncData
  F_new_names : Fun K "_law_new_names" "_law_new_names" s_new_names a_new_names fd_new_names
  b_new_names : Binds K fd_new_names p_new_names []
  g_new_names : mg "_law_new_names" = some (.ref a_new_names)
  a_new_integer : Addr
  fd_new_integer : FuncData
  F_new_integer : Fun K "_law_new_integer" "_law_new_integer" s_new_integer a_new_integer fd_new_integer
  b_new_integer : Binds K fd_new_integer p_new_integer []
  g_new_integer : mg "_law_new_integer" = some (.ref a_new_integer)
  a_classes : Addr
  fd_classes : FuncData
  F_classes : Fun K "_law_classes" "_law_classes" s_classes a_classes fd_classes
  b_classes : Binds K fd_classes p_classes []
  g_classes : mg "_law_classes" = some (.ref a_classes)
  a_numbered : Addr
  fd_numbered : FuncData
  F_numbered : Fun K "_law_numbered" "_law_numbered" s_numbered a_numbered fd_numbered
  b_numbered : Binds K fd_numbered p_numbered []
  g_numbered : mg "_law_numbered" = some (.ref a_numbered)
  a_texted : Addr
  fd_texted : FuncData
  F_texted : Fun K "_law_texted" "_law_texted" s_texted a_texted fd_texted
  b_texted : Binds K fd_texted p_texted []
  g_texted : mg "_law_texted" = some (.ref a_texted)
  a_shown : Addr
  fd_shown : FuncData
  F_shown : Fun K "_law_shown" "_law_shown" s_shown a_shown fd_shown
  b_shown : Binds K fd_shown p_shown []
  g_shown : mg "_law_shown" = some (.ref a_shown)
  a_law : Addr
  fd_law : FuncData
  F_law : Fun K "law" "law" s_law a_law fd_law
  b_law : Binds K fd_law p_law []
  g_law : mg "law" = some (.ref a_law)

end L2.Pf
set_option maxHeartbeats 2000000
namespace L2.Pf
open PySem PySem.Spec PyProof.Rows L2.Ev
section
variable {P : Program} {w : World} {K : PySem.W.Frag} {mg : Str → Option Value} {base : Heap}
theorem cut_to (xs : List V) {z : Int} {k : Nat} (e : z = (k : Int)) (hk : k ≤ 1000000) : cutV xs none (some z) = xs.take k := by
  subst e
  unfold cutV
  rw [HT.sIx_none, HT.sIx_nat, List.drop_zero, Nat.sub_zero]
  by_cases h : k ≤ xs.length
  · rw [Nat.min_eq_left h]
  · rw [Nat.min_eq_right (by omega), List.take_of_length_le (Nat.le_refl _), List.take_of_length_le (by omega)]
def sp_begun_pen (K : PySem.W.Frag) : Sp := fun vs H Q _ => ∃ (a : Addr) (ns : List Int), vs = [.ref a] ∧ SqL K H a (ns.map V.int) ∧ ns.length ≤ 63 ∧
  ∀ p c H', H p = none → H c = none → Same H H' → Pen H' p c ns 0 → Q (.ref p) H'
theorem ok_begun_pen (T : TX K mg) : FnOk P w K mg base CX0 1 T.a_begun_pen T.fd_begun_pen p_begun_pen (sp_begun_pen K) := by
  refine T.F_begun_pen.ok sc_begun_pen (fun vs H Q E h => ?_) (fun cdv A outer s H vs Q E hr h => ?_)
  · obtain ⟨a, ns, rfl, _⟩ := h
    rfl
  · obtain ⟨a, ns, rfl, hS, hl, k⟩ := h
    refine ⟨_, (pss_one (ps_ret (pe_disp (pps_cons pe_str (pe_callTy call_list_of (by rfl) T.z_list (by decide +kernel) (pa_cons (pe_slice sl_list (pv 0) po_none (po_some pe_int)) pa_nil)) (pps_cons pe_str pe_int (pps_cons pe_str pe_int pps_nil))) (by rfl) (by rfl) (fun z => by cases z) (by decide)))), ?_⟩
    intro p hp
    have hS1 : SqL K (upd H p (.dK [])) a (ns.map V.int) := (Same.new (Same.refl H) hp).seq hS
    refine ⟨_, rfl, _, rfl, a, _, rfl, hS1, fun c hc => ?_⟩
    have e1 : cutV (ns.map V.int) none (some 63) = ns.map V.int := by
      rw [cut_to _ (z := 63) (k := 63) rfl (by decide), List.take_of_length_le (by rw [List.length_map]; exact hl)]
    rw [e1]
    refine ⟨c, _, rfl, .inl (SqL.of upd_same), fun d hd => ?_⟩
    have hcp : c ≠ p := fun z => by
      rw [z, upd_same] at hc
      cases hc
    have hc0 : H c = none := by
      rw [upd_ne hcp] at hc
      exact hc
    have hdp : d ≠ p := fun z => by
      rw [z, upd_ne (Ne.symm hcp), upd_same] at hd
      cases hd
    have hdc : d ≠ c := fun z => by
      rw [z, upd_same] at hd
      cases hd
    have hd0 : H d = none := by
      rw [upd_ne hdc, upd_ne hdp] at hd
      exact hd
    refine ⟨by rw [upd_ne (Ne.symm hdp), upd_ne (Ne.symm hcp), upd_same], penD d 0 0, rfl, (by show 3 ≤ 15; decide), ?_⟩
    refine k p d _ hp hd0 (Same.own (Same.own (Same.own (Same.own (Same.refl H) hp) hc0) hd0) hp) ⟨⟨0, 0, upd_same, by decide, by decide⟩, ?_, hl⟩
    rw [upd_ne hdp, upd_same]
def sp_draw : Sp := fun vs H Q _ => ∃ (p c : Addr) (ns : List Int) (n : Nat) (span : Int), vs = [.ref p, .int span] ∧ Pen H p c ns n ∧ n ≤ 2 ^ 60 ∧ 0 < span ∧ span.natAbs < 2 ^ 8000 ∧
  ∀ d H', 0 ≤ d → d < span → Pen H' p c ns (n + 1) → But p H H' → Q (.int d) H'
theorem mod_in {a b : Int} (h : 0 < b) : 0 ≤ a % b ∧ a % b < b := ⟨Int.emod_nonneg _ (by omega), Int.emod_lt_of_pos _ h⟩
theorem ok_draw (T : TX K mg) : FnOk P w K mg base CX0 1 T.a_draw T.fd_draw p_draw sp_draw := by
  refine T.F_draw.ok sc_draw (fun vs H Q E h => ?_) (fun cdv A outer s H vs Q E hr h => ?_)
  · obtain ⟨p, c, ns, n, span, rfl, _⟩ := h
    rfl
  · obtain ⟨p, c, ns, n, span, rfl, hp, hn, h0, h9, k⟩ := h
    refine ⟨_, (pss_cons (ps_if (pt_cmpR op_gt (pe_dget (hu_of hr) (pv 0) pe_str (fun _ _ => rfl)) pe_int (nomark _)) (pss_cons (ps_set (i := 2) sc_draw.nd rfl (Or.inl rfl) (pe_op op_mod (pe_callTy call_int1 (by rfl) T.z_int (by decide +kernel) (pa_cons (pe_dget (hu_of hr) (pv 0) pe_str (fun _ _ => rfl)) pa_nil)) (pv 1)))
  (pss_cons (ps_dput (hu_of hr) (pv 0) pe_str (pe_op op_fdivW (pe_dget (hu_of hr) (pv 0) pe_str (fun _ _ => rfl)) (pv 1)) rfl)
  (pss_one (ps_ret (pv 2))))) pss_nil)
  (pss_cons (ps_set (i := 3) sc_draw.nd rfl (Or.inl rfl) (pe_dget (hu_of hr) (pv 0) pe_str (fun _ _ => rfl)))
  (pss_cons (ps_dput (hu_of hr) (pv 0) pe_str (pe_op op_add (pv 3) pe_int) rfl)
  (pss_cons (ps_set (i := 4) sc_draw.nd rfl (Or.inl rfl) (pe_op op_add (pe_op op_mul pe_int (pv 3)) pe_int))
  (pss_join (ps_if (pt_cmpR (op_neNil hr.units0) (pe_dget (hu_of hr) (pv 0) pe_str (fun _ _ => rfl)) (pe_lst pa_nil) (nomark _)) (pss_one (ps_set (i := 4) sc_draw.nd rfl (Or.inl rfl) (pe_ix ix_list (pe_dget (hu_of hr) (pv 0) pe_str (fun _ _ => rfl)) (pe_op op_mod (pe_callTy call_int1 (by rfl) T.z_int (by decide +kernel) (pa_cons (pv 3) pa_nil)) (pe_callB call_len_seq (by rfl) T.z_len (by decide +kernel) (pa_cons (pe_dget (hu_of hr) (pv 0) pe_str (fun _ _ => rfl)) pa_nil))) (fun _ _ => rfl)))) pss_nil)
  (pss_join (ps_if (PW.pt (pw_and (pt_cmpR op_lt (pv 3) (pe_callB call_len_seq (by rfl) T.z_len (by decide +kernel) (pa_cons (pe_dget (hu_of hr) (pv 0) pe_str (fun _ _ => rfl)) pa_nil)) (nomark _)) (pw_and1 (pt_cmpR op_ge (pe_callB call_abs (by rfl) T.z_abs (by decide +kernel) (pa_cons (pv 4) pa_nil)) (pe_op op_pow pe_int pe_int) (nomark _))))) (pss_cons (ps_dput (hu_of hr) (pv 0) pe_str (pe_op op_fdivW (pe_op op_sub (pe_callB call_abs (by rfl) T.z_abs (by decide +kernel) (pa_cons (pv 4) pa_nil)) (pe_op op_pow pe_int pe_int)) (pv 1)) rfl)
  (pss_one (ps_ret (pe_op op_mod (pe_callTy call_int1 (by rfl) T.z_int (by decide +kernel) (pa_cons (pe_op op_sub (pe_callB call_abs (by rfl) T.z_abs (by decide +kernel) (pa_cons (pv 4) pa_nil)) (pe_op op_pow pe_int pe_int)) pa_nil)) (pv 1))))) pss_nil)
  (pss_cons (ps_set (i := 5) sc_draw.nd rfl (Or.inl rfl) (pe_op op_mul (pe_op op_mod (pe_callTy call_int1 (by rfl) T.z_int (by decide +kernel) (pa_cons (pv 4) pa_nil)) pe_int) pe_int))
  (pss_cons (ps_set (i := 5) sc_draw.nd rfl (Or.inl rfl) (pe_op op_mod (pe_callTy call_int1 (by rfl) T.z_int (by decide +kernel) (pa_cons (pe_op op_add (pe_op op_add (pv 5) (pe_op op_mul (pv 3) (pe_op op_add (pe_op op_mul (pv 3) pe_int) pe_int))) pe_int) pa_nil)) pe_int))
  (pss_cons (ps_set (i := 5) sc_draw.nd rfl (Or.inl rfl) (pe_op op_mod (pe_callTy call_int1 (by rfl) T.z_int (by decide +kernel) (pa_cons (pe_op op_mul (pv 5) (pe_op op_add (pv 5) pe_int)) pa_nil)) pe_int))
  (pss_cons (ps_set (i := 5) sc_draw.nd rfl (Or.inl rfl) (pe_op op_mod (pe_callTy call_int1 (by rfl) T.z_int (by decide +kernel) (pa_cons (pe_op op_add (pe_op op_add (pe_op op_mul (pv 5) (pv 5)) (pe_op op_mul pe_int (pv 5))) (pe_op op_mul pe_int (pv 3))) pa_nil)) pe_int))
  (pss_one (ps_ret (pe_op op_mod (pe_callTy call_int1 (by rfl) T.z_int (by decide +kernel) (pa_cons (pe_op op_fdiv (pe_op op_mod (pe_callTy call_int1 (by rfl) T.z_int (by decide +kernel) (pa_cons (pe_op op_mul (pv 5) (pe_op op_add (pv 5) pe_int)) pa_nil)) pe_int) pe_int) pa_nil)) (pv 1)))))))))))))), ?_⟩
    obtain ⟨⟨t, l, hd, ht0, htn⟩, hc, hlen⟩ := id hp
    have hdig : ∀ z : Int, 0 ≤ z % span ∧ z % span < span := fun z => mod_in h0
    have hdv : ∀ z : Int, CDivW z span := fun z => wide_div h0 h9 (by decide) (by decide)
    refine ⟨_, rfl, p, _, rfl, pen_left hd, _, _, rfl, rfl, _, rfl, ?_⟩
    refine ite2 (fun hl0 => ?_) (fun hl0 => ?_)
    · refine ⟨_, rfl, p, _, rfl, pen_left hd, .inl ⟨_, rfl, _, rfl, _, _, rfl, rfl, h0, ?_⟩⟩
      refine ⟨_, rfl, p, _, rfl, pen_left hd, _, rfl, _, _, rfl, rfl, hdv _, _, rfl, p, _, rfl, pen_put_left hd, ?_⟩
      refine ⟨_, rfl, ?_⟩
      exact k _ _ (hdig l).1 (hdig l).2 ((hp.dput ht0 htn).mono (Nat.le_succ n)) (But.self (But.refl p H))
    · refine ⟨_, rfl, p, _, rfl, pen_turn hd, ?_⟩
      refine ⟨_, rfl, _, _, rfl, rfl, _, rfl, p, _, rfl, pen_put_turn hd, ?_⟩
      have hp1 : Pen (upd H p (.dK (penD c (t + 1) l))) p c ns (n + 1) := by
        refine (hp.mono (Nat.le_succ n)).dput (by omega) (by push_cast; omega)
      have hd1 : (upd H p (.dK (penD c (t + 1) l))) p = some (.dK (penD c (t + 1) l)) := upd_same
      have hb1 : But p H (upd H p (.dK (penD c (t + 1) l))) := But.self (But.refl p H)
      generalize upd H p (.dK (penD c (t + 1) l)) = H1 at hp1 hd1 hb1
      have hc1 := hp1.cells
      refine ⟨_, rfl, _, _, rfl, rfl, .inl ⟨by decide, by decide⟩, _, _, rfl, rfl, ?_⟩
      -- the cell
      refine ⟨fun σ H2 => ∃ z : Int, σ = [some (.ref p), some (.int span), none, some (.int t), some (.int z), none] ∧ Pen H2 p c ns (n + 1) ∧ But p H H2 ∧ H2 p = some (.dK (penD c (t + 1) l)), ?_, ?_⟩
      · refine ⟨_, rfl, p, _, rfl, pen_cells hd1, Nat.zero_le _, fun q hq => ?_⟩
        refine ⟨c, q, _, rfl, rfl, SqL.of (by rw [upd_ne (ne_of_none hc1 hq)]; exact hc1), SqL.of upd_same, _, rfl, ?_⟩
        have hp2 := hp1.new (o := .lst []) hq
        have hd2 : (upd H1 q (.lst [])) p = some (.dK (penD c (t + 1) l)) := by rw [upd_ne (ne_of_none hd1 hq)]; exact hd1
        have hb2 : But p H (upd H1 q (.lst [])) := But.new hb1 hq
        generalize upd H1 q (.lst []) = H2 at hp2 hd2 hb2
        have hc2 := hp2.cells
        cases ns with
        | nil => exact iteF ⟨_, rfl, hp2, hb2, hd2⟩
        | cons x xs =>
          refine iteT ?_
          have hL : (0 : Int) < ((((x :: xs).map V.int).length : Nat) : Int) := by simp
          obtain ⟨m0, m1⟩ := mod_in (a := t) hL
          obtain ⟨j, hj⟩ := Int.eq_ofNat_of_zero_le m0
          have hj2 : j < (x :: xs).length := by
            rw [hj, List.length_map] at m1
            exact Int.ofNat_lt.mp m1
          refine ⟨_, rfl, p, _, rfl, pen_cells hd2, _, rfl, .inl ⟨_, rfl, _, rfl, p, _, rfl, pen_cells hd2, c, _, rfl, .inl (SqL.of hc2), _, _, rfl, rfl, hL, ?_⟩⟩
          refine ⟨c, _, _, .int ((x :: xs)[j]'hj2), rfl, rfl, SqL.of hc2, at_of hj (by rw [List.getElem?_map, List.getElem?_eq_getElem hj2]; rfl), ?_⟩
          exact ⟨_, rfl, hp2, hb2, hd2⟩
      · rintro σ H2 ⟨z, rfl, hp2, hb2, hd2⟩
        have hc2 := hp2.cells
        have fin : ∀ u : Int, Q (.int (u % span)) H2 := fun u => k _ _ (hdig u).1 (hdig u).2 hp2 hb2
        refine ⟨fun σ H3 => σ = [some (.ref p), some (.int span), none, some (.int t), some (.int z), none] ∧ H3 = H2, ?_, ?_⟩
        · refine ⟨_, rfl, _, rfl, p, _, rfl, pen_cells hd2, c, _, rfl, .inl (SqL.of hc2), _, _, rfl, rfl, _, rfl, ?_⟩
          refine ite2 (fun _ => ?_) (fun _ => iteF ⟨rfl, rfl⟩)
          refine ⟨_, rfl, _, rfl, _, _, rfl, rfl, ⟨by decide, by decide, by decide⟩, _, _, rfl, rfl, _, rfl, ?_⟩
          refine ite2 (fun _ => ?_) (fun _ => ⟨rfl, rfl⟩)
          refine ⟨_, rfl, _, rfl, _, _, rfl, rfl, ⟨by decide, by decide, by decide⟩, _, _, rfl, rfl, _, rfl, _, _, rfl, rfl, hdv _, _, rfl, p, _, rfl, pen_put_left hd2, ?_⟩
          refine ⟨_, rfl, _, rfl, _, _, rfl, rfl, ⟨by decide, by decide, by decide⟩, _, _, rfl, rfl, .inl ⟨_, rfl, _, rfl, _, _, rfl, rfl, h0, ?_⟩⟩
          exact k _ _ (hdig _).1 (hdig _).2 (hp2.dput (by omega) (by push_cast; omega)) (But.self hb2)
        · rintro σ H3 ⟨rfl, rfl⟩
          refine ⟨_, rfl, .inl ⟨_, rfl, _, _, rfl, rfl, (by show (0 : Int) < _; decide), _, _, rfl, rfl, .inr ⟨by decide, by decide⟩, ?_⟩⟩
          obtain ⟨a0, a1⟩ := mod_in (a := z) (b := 4294967087) (by decide)
          generalize z % 4294967087 * 48611 = y1
          refine ⟨_, rfl, _, rfl, _, rfl, _, _, rfl, rfl, .inr ⟨by decide, by decide⟩, _, _, rfl, rfl, _, _, rfl, rfl, .inl ⟨by omega, by omega⟩, _, _, rfl, rfl, _, _, rfl, rfl, .inl ⟨_, rfl, _, _, rfl, rfl, (by show (0 : Int) < _; decide), ?_⟩⟩
          obtain ⟨b0, b1⟩ := mod_in (a := y1 + t * (t * 27919 + 10601) + 41) (b := 4294967029) (by decide)
          generalize (y1 + t * (t * 27919 + 10601) + 41) % 4294967029 = y2 at b0 b1
          refine ⟨_, rfl, _, rfl, _, _, rfl, rfl, _, _, rfl, rfl, .inl ⟨by omega, by omega⟩, .inl ⟨_, rfl, _, _, rfl, rfl, (by show (0 : Int) < _; decide), ?_⟩⟩
          obtain ⟨c0, c1⟩ := mod_in (a := y2 * (y2 + 75013)) (b := 4294966997) (by decide)
          generalize y2 * (y2 + 75013) % 4294966997 = y3 at c0 c1
          refine ⟨_, rfl, _, rfl, _, _, rfl, rfl, .inl ⟨by omega, by omega⟩, _, rfl, _, _, rfl, rfl, .inl ⟨by decide, by decide⟩, _, _, rfl, rfl, _, rfl, _, _, rfl, rfl, .inl ⟨by decide, by decide⟩, _, _, rfl, rfl, .inl ⟨_, rfl, _, _, rfl, rfl, (by show (0 : Int) < _; decide), ?_⟩⟩
          obtain ⟨e0, e1⟩ := mod_in (a := y3 * y3 + 30427 * y3 + 19 * t) (b := 4294966981) (by decide)
          generalize (y3 * y3 + 30427 * y3 + 19 * t) % 4294966981 = y4 at e0 e1
          refine ⟨_, rfl, _, rfl, _, _, rfl, rfl, _, _, rfl, rfl, .inl ⟨by omega, by omega⟩, .inl ⟨_, rfl, _, _, rfl, rfl, (by show (0 : Int) < _; decide), _, _, rfl, rfl, ⟨by decide, by decide⟩, .inl ⟨_, rfl, _, rfl, _, _, rfl, rfl, h0, ?_⟩⟩⟩
          exact fin _
end
end L2.Pf
set_option maxHeartbeats 2000000
namespace L2.Pf
open PySem PySem.Spec PyProof.Rows L2.Ev
section
variable {P : Program} {w : World} {K : PySem.W.Frag} {mg : Str → Option Value} {base : Heap}
theorem seq_nat {d : Int} {n : Nat} (h0 : 0 ≤ d) (h1 : d < (n : Int)) : seqIndex? d n = some d.toNat := by
  have e : ixN n d = some d.toNat := by
    unfold ixN
    rw [if_pos h0, if_pos h1]
  exact (ixN_seq e).1
theorem era_perm {α : Type} : ∀ (l : List α) (i : Nat) (h : i < l.length), (l[i] :: l.eraseIdx i).Perm l
  | [], _, h => absurd h (by simp)
  | _ :: _, 0, _ => List.Perm.refl _
  | a :: l, i + 1, h => by
    have z : i < l.length := by simpa using h
    exact (List.Perm.swap a _ _).trans (List.Perm.cons a (era_perm l i z))
def sp_shuffled (K : PySem.W.Frag) : Sp := fun vs H Q _ => ∃ (p c : Addr) (ns : List Int) (n : Nat) (a : Addr) (xs : List V), vs = [.ref p, .ref a] ∧ Pen H p c ns n ∧ (SqL K H a xs ∨ SqT K H a xs) ∧ xs.length ≤ 1000 ∧ n ≤ 2 ^ 50 ∧
  ∀ ys r H', ys.Perm xs → H r = none → H' r = some (.lst ys) → Pen H' p c ns (n + xs.length) → But p H H' → Q (.ref r) H'
theorem ok_shuffled (T : TX K mg) : FnOk P w K mg base CX0 2 T.a_shuffled T.fd_shuffled p_shuffled (sp_shuffled K) := by
  refine T.F_shuffled.ok sc_shuffled (fun vs H Q E h => ?_) (fun cdv A outer s H vs Q E hr h => ?_)
  · obtain ⟨p, c, ns, n, a, xs, rfl, _⟩ := h
    rfl
  · obtain ⟨p, c, ns, n, a, xs, rfl, hp, hS, hl, hn, k⟩ := h
    refine ⟨_, (pss_cons (ps_par (i := 2) (j := 3) (by rfl) sc_shuffled.nd rfl rfl (by decide) rfl rfl (pa_cons (pe_callTy call_list_of (by rfl) T.z_list (by decide +kernel) (pa_cons (pv 1) pa_nil)) (pa_cons (pe_lst pa_nil) pa_nil)) (by rfl))
  (pss_cons (ps_while PassesOwn.never (pt_cmpR (op_neNil hr.units0) (pv 2) (pe_lst pa_nil) (nomark _)) (pss_one (ps_expr (pe_bm PySem.F.plainAttrs_list PySem.F.slot_list_append PySem.F.type_list_append mt_append (pv 3) (pa_cons (pe_bm PySem.F.plainAttrs_list PySem.F.slot_list_pop PySem.F.type_list_pop mt_popAt (pv 2) (pa_cons (pe_call (ok_draw T) (hr.mono (by decide)) rfl T.g_draw T.F_draw.kp T.b_draw .nil pass0 (pa_cons (pv 0) (pa_cons (pe_callB call_len_seq (by rfl) T.z_len (by decide +kernel) (pa_cons (pv 2) pa_nil)) pa_nil))) pa_nil)) pa_nil)))))
  (pss_one (ps_ret (pv 3))))), ?_⟩
    refine ⟨_, rfl, a, _, rfl, hS, fun r1 hr1 => ⟨Nat.zero_le _, fun r2 hr2 => ⟨_, _, rfl, ?_⟩⟩⟩
    have n12 : r2 ≠ r1 := fun z => by
      rw [z, upd_same] at hr2
      cases hr2
    have h02 : H r2 = none := by
      rw [upd_ne n12] at hr2
      exact hr2
    have pne : ∀ {q : Addr}, H q = none → q ≠ p := fun hq => Ne.symm (ne_of_none hp.there.choose_spec hq)
    have cne : ∀ {q : Addr}, H q = none → q ≠ c := fun hq => Ne.symm (ne_of_none hp.cells hq)
    refine ⟨fun m σ H1 => ∃ (rs fs : List V) (j : Nat), m = rs.length ∧ σ = [some (.ref p), some (.ref a), some (.ref r1), some (.ref r2)] ∧ H1 r1 = some (.lst rs) ∧ H1 r2 = some (.lst fs) ∧ (fs ++ rs).Perm xs ∧ j = n + fs.length ∧ Pen H1 p c ns j ∧ But p H H1, ?_, ?_⟩
    · refine ⟨_, xs, [], n, rfl, rfl, by rw [upd_ne (Ne.symm n12), upd_same], upd_same, List.Perm.refl _, rfl, (hp.new hr1).new hr2, But.own (But.own (But.refl p H) hr1) h02⟩
    · rintro m σ H1 ⟨rs, fs, j, rfl, rfl, e1, e2, hperm, ej, hpn, hb⟩
      refine ⟨_, rfl, Nat.zero_le _, fun q hq => ?_⟩
      have hlen : fs.length + rs.length = xs.length := by
        have z := hperm.length_eq
        rw [List.length_append] at z
        exact z
      have e1' : (upd H1 q (.lst [])) r1 = some (.lst rs) := by rw [upd_ne (ne_of_none e1 hq)]; exact e1
      have e2' : (upd H1 q (.lst [])) r2 = some (.lst fs) := by rw [upd_ne (ne_of_none e2 hq)]; exact e2
      refine ⟨r1, q, _, rfl, rfl, SqL.of e1', SqL.of upd_same, _, rfl, ?_⟩
      have hpn' : Pen (upd H1 q (.lst [])) p c ns j := hpn.new hq
      have hb' : But p H (upd H1 q (.lst [])) := But.new hb hq
      generalize upd H1 q (.lst []) = H2 at e1' e2' hpn' hb'
      cases rs with
      | nil =>
        rw [List.append_nil] at hperm
        refine iteF ⟨_, rfl, ?_⟩
        refine k fs r2 H2 hperm h02 e2' (hpn'.mono (by simp at hlen; omega)) hb'
      | cons y0 rt =>
        refine iteT ⟨_, fun σ' H' z => z, ?_⟩
        refine ⟨_, rfl, .inl ⟨rfl, _, SqL.of e2'⟩, _, rfl, .inl ⟨rfl, _, SqL.of e1'⟩, _, rfl, _, rfl, r1, _, rfl, .inl (SqL.of e1'), ?_⟩
        have hL : (0 : Int) < (((y0 :: rt).length : Nat) : Int) := by simp
        have hlr : (y0 :: rt).length ≤ 1000 := by omega
        refine ⟨p, c, ns, j, _, rfl, hpn', by omega, hL, ?_, fun d H3 d0 d1 hp3 hb3 => ?_⟩
        · exact Nat.lt_of_le_of_lt (by rw [Int.natAbs_natCast]; exact hlr) (show 1000 < 2 ^ 8000 from Nat.lt_of_lt_of_le (by decide : 1000 < 2 ^ 10) (Nat.pow_le_pow_right (by decide) (by decide)))
        have pr1 : r1 ≠ p := pne hr1
        have pr2 : r2 ≠ p := pne h02
        have e13 := hb3 _ _ pr1 e1'
        have e23 := hb3 _ _ pr2 e2'
        have hdl : d.toNat < (y0 :: rt).length := by omega
        refine ⟨r1, _, d, d.toNat, (y0 :: rt)[d.toNat]'hdl, rfl, rfl, e13, by omega, by omega, seq_nat d0 d1, List.getElem?_eq_getElem hdl, ?_⟩
        refine ⟨r2, fs, _, rfl, rfl, by rw [upd_ne n12]; exact e23, small1000 (by omega), ?_⟩
        refine ⟨_, by rw [List.length_eraseIdx_of_lt hdl]; exact Nat.sub_lt (by simp) (by decide), (y0 :: rt).eraseIdx d.toNat, fs ++ [(y0 :: rt)[d.toNat]'hdl], j + 1, rfl, rfl, by rw [upd_ne (Ne.symm n12), upd_same], upd_same, ?_, ?_, ?_, ?_⟩
        · refine List.Perm.trans ?_ hperm
          rw [List.append_assoc]
          exact List.Perm.append_left fs (era_perm _ _ hdl)
        · rw [List.length_append, List.length_singleton, ej]
          omega
        · exact (hp3.upd pr1 (cne hr1)).upd pr2 (cne h02)
        · exact But.own (But.own (hb'.trans hb3) hr1) h02
theorem ok_small {n : Int} (h : n.natAbs < 2 ^ 64) : n.natAbs < 2 ^ 8000 := Nat.lt_of_lt_of_le h (Nat.pow_le_pow_right (by decide) (by decide))
/-- an integer of the law's: any -/
def sp_new_integer : Sp := fun vs H Q _ => ∃ (p c : Addr) (ns : List Int) (n : Nat), vs = [.ref p] ∧ Pen H p c ns n ∧ n ≤ 2 ^ 50 ∧
  ∀ z H', Pen H' p c ns (n + 4) → But p H H' → Q (.int z) H'
theorem ok_new_integer (T : TX K mg) : FnOk P w K mg base CX0 2 T.a_new_integer T.fd_new_integer p_new_integer sp_new_integer := by
  refine T.F_new_integer.ok sc_new_integer (fun vs H Q E h => ?_) (fun cdv A outer s H vs Q E hr h => ?_)
  · obtain ⟨p, c, ns, n, rfl, _⟩ := h
    rfl
  · obtain ⟨p, c, ns, n, rfl, hp, hn, k⟩ := h
    refine ⟨_, (pss_cons (ps_if (pt_cmpR op_gt (pe_call (ok_draw T) (hr.mono (by decide)) rfl T.g_draw T.F_draw.kp T.b_draw .nil pass0 (pa_cons (pv 0) (pa_cons pe_int pa_nil))) pe_int (nomark _)) (pss_one (ps_ret (pe_op op_sub (pe_call (ok_draw T) (hr.mono (by decide)) rfl T.g_draw T.F_draw.kp T.b_draw .nil pass0 (pa_cons (pv 0) (pa_cons pe_int pa_nil))) pe_int))) pss_nil)
  (pss_one (ps_ret (pe_op op_mul (pe_ix ix_list (pe_lst (pa_cons pe_int (pa_cons (pe_un un_neg pe_int) pa_nil))) (pe_call (ok_draw T) (hr.mono (by decide)) rfl T.g_draw T.F_draw.kp T.b_draw .nil pass0 (pa_cons (pv 0) (pa_cons pe_int pa_nil))) (fun _ _ => rfl)) (pe_op op_add (pe_op op_mul (pe_call (ok_draw T) (hr.mono (by decide)) rfl T.g_draw T.F_draw.kp T.b_draw .nil pass0 (pa_cons (pv 0) (pa_cons (pe_op op_pow pe_int pe_int) pa_nil))) (pe_op op_pow pe_int pe_int)) (pe_call (ok_draw T) (hr.mono (by decide)) rfl T.g_draw T.F_draw.kp T.b_draw .nil pass0 (pa_cons (pv 0) (pa_cons (pe_op op_pow pe_int pe_int) pa_nil)))))))), ?_⟩
    refine ⟨_, rfl, p, c, ns, n, 8, rfl, hp, by omega, by decide, ok_small (by decide), fun d H1 d0 d1 hp1 hb1 => ?_⟩
    refine ⟨_, _, rfl, rfl, _, rfl, ?_⟩
    refine ite2 (fun _ => ?_) (fun _ => ?_)
    · refine ⟨_, rfl, p, c, ns, n + 1, 6, rfl, hp1, by omega, by decide, ok_small (by decide), fun e H2 e0 e1 hp2 hb2 => ?_⟩
      exact ⟨_, _, rfl, rfl, k _ _ (hp2.mono (by omega)) (hb1.trans hb2)⟩
    · refine ⟨_, rfl, (by show 2 ≤ sizeLine; decide), fun q hq => ?_⟩
      have hq0 := But.free hb1 hp1.d.choose_spec.choose_spec.1 hq
      refine ⟨_, rfl, p, c, ns, n + 1, 2, rfl, hp1.new hq, by omega, by decide, ok_small (by decide), fun e H2 e0 e1 hp2 hb2 => ?_⟩
      have hq2 : H2 q = some (.lst [.int 1, .int (-1)]) := hb2 _ _ (Ne.symm (ne_of_none hp1.d.choose_spec.choose_spec.1 hq)) upd_same
      have hb20 : But p H H2 := (But.own hb1 hq0).trans hb2
      obtain ⟨u, hu, hu1⟩ : ∃ u : Int, atI [V.int 1, V.int (-1)] e = some (.int u) ∧ -(2 ^ 64) < u ∧ u < 2 ^ 64 := by
        have : e = 0 ∨ e = 1 := by omega
        rcases this with rfl | rfl
        · exact ⟨1, rfl, by decide, by decide⟩
        · exact ⟨-1, rfl, by decide, by decide⟩
      refine ⟨q, _, _, _, rfl, rfl, SqL.of hq2, hu, ?_⟩
      refine ⟨_, rfl, _, _, rfl, rfl, ⟨by decide, by decide, by decide⟩, p, c, ns, n + 2, _, rfl, hp2, by omega, by decide, ok_small (by decide), fun f H3 f0 f1 hp3 hb3 => ?_⟩
      refine ⟨_, _, rfl, rfl, ⟨by decide, by decide, by decide⟩, _, _, rfl, rfl, .inr ⟨by decide, by decide⟩, ?_⟩
      refine ⟨_, rfl, _, _, rfl, rfl, ⟨by decide, by decide, by decide⟩, p, c, ns, n + 3, _, rfl, hp3, by omega, by decide, ok_small (by decide), fun g H4 g0 g1 hp4 hb4 => ?_⟩
      exact ⟨_, _, rfl, rfl, _, _, rfl, rfl, .inl hu1, k _ _ hp4 ((hb20.trans hb3).trans hb4)⟩
end
end L2.Pf
set_option maxHeartbeats 2000000
namespace L2.Pf
open PySem PySem.Spec PyProof.Rows L2.Ev
section
variable {P : Program} {w : World} {K : PySem.W.Frag} {mg : Str → Option Value} {base : Heap}
/-! ### names -/
def NAMES : List Str := ["p", "q", "a", "b", "x", "y", "k", "key", "tables", "ends", "lasts", "somes", "isnot", "hashes", "own", "abcdefghijkl"]
def strV : V → Str
  | .str s => s
  | _ => ""
theorem perm_strs {ys : List V} {zs : List Str} (h : ys.Perm (zs.map V.str)) : ∃ us : List Str, ys = us.map V.str ∧ us.Perm zs := by
  refine ⟨ys.map strV, ?_, ?_⟩
  · rw [List.map_map]
    have e : ∀ y ∈ ys, (V.str ∘ strV) y = y := fun y hy => by
      obtain ⟨s, _, rfl⟩ := List.mem_map.mp (h.mem_iff.mp hy)
      rfl
    rw [List.map_congr_left e, List.map_id']
  · have z := h.map strV
    rw [List.map_map] at z
    have e : (strV ∘ V.str) = id := by
      funext s
      rfl
    rw [e, List.map_id] at z
    exact z
def sp_new_names : Sp := fun vs H Q _ => ∃ (p c : Addr) (ns : List Int) (n m : Nat), vs = [.ref p, .int (m : Int)] ∧ Pen H p c ns n ∧ m ≤ 16 ∧ n ≤ 2 ^ 49 ∧
  ∀ (us : List Str) r H', us.length = m → us.Nodup → (∀ u ∈ us, u ∈ NAMES) → H r = none → H' r = some (.lst (us.map V.str)) → Pen H' p c ns (n + 16) → But p H H' → Q (.ref r) H'
theorem ok_new_names (T : TX K mg) : FnOk P w K mg base CX0 3 T.a_new_names T.fd_new_names p_new_names sp_new_names := by
  refine T.F_new_names.ok sc_new_names (fun vs H Q E h => ?_) (fun cdv A outer s H vs Q E hr h => ?_)
  · obtain ⟨p, c, ns, n, m, rfl, _⟩ := h
    rfl
  · obtain ⟨p, c, ns, n, m, rfl, hp, hm, hn, k⟩ := h
    refine ⟨_, (pss_cons (ps_set (i := 2) sc_new_names.nd rfl (Or.inl rfl) (pe_lst (pa_cons pe_str (pa_cons pe_str (pa_cons pe_str (pa_cons pe_str (pa_cons pe_str (pa_cons pe_str (pa_cons pe_str (pa_cons pe_str (pa_cons pe_str (pa_cons pe_str (pa_cons pe_str (pa_cons pe_str (pa_cons pe_str (pa_cons pe_str (pa_cons pe_str pa_nil)))))))))))))))))
  (pss_one (ps_ret (pe_slice sl_list (pe_call (ok_shuffled T) (hr.mono (by decide)) rfl T.g_shuffled T.F_shuffled.kp T.b_shuffled .nil pass0 (pa_cons (pv 0) (pa_cons (pe_op op_cat (pv 2) (pe_lst (pa_cons pe_str pa_nil))) pa_nil))) po_none (po_some (pv 1)))))), ?_⟩
    refine ⟨by show 15 ≤ sizeLine; decide, fun a ha => ?_⟩
    refine ⟨_, rfl, _, rfl, by show 1 ≤ sizeLine; decide, fun b hb => ?_⟩
    have nab : a ≠ b := fun z => by
      rw [← z, upd_same] at hb
      cases hb
    have hb0 : H b = none := by
      rw [upd_ne (Ne.symm nab)] at hb
      exact hb
    refine ⟨a, b, _, _, rfl, rfl, by rw [upd_ne nab, upd_same], upd_same, by show 16 ≤ sizeLine; decide, fun d hd => ?_⟩
    have hd0 : H d = none := by
      have h1 : d ≠ b := fun z => by
        rw [z, upd_same] at hd
        cases hd
      rw [upd_ne h1] at hd
      have h2 : d ≠ a := fun z => by
        rw [z, upd_same] at hd
        cases hd
      rw [upd_ne h2] at hd
      exact hd
    have hbut := But.own (o := .lst (NAMES.map V.str)) (But.own (o := .lst [.str "abcdefghijkl"]) (But.own (o := .lst ((NAMES.take 15).map V.str)) (But.refl p H) ha) hb0) hd0
    refine ⟨p, c, ns, n, d, NAMES.map V.str, rfl, ((hp.new ha).new hb).new hd, .inl (SqL.of upd_same), by show 16 ≤ 1000; decide, by omega, fun ys r H' hys hr' er hp' hb' => ?_⟩
    obtain ⟨us, rfl, hus⟩ := perm_strs hys
    refine ⟨_, rfl, _, rfl, r, _, rfl, SqL.of er, fun q hq => ?_⟩
    rw [cut_to _ rfl (by omega), ← List.map_take]
    have hlen : us.length = 16 := hus.length_eq
    have hq0 : H q = none := by
      refine But.free (hbut.trans hb') hp'.d.choose_spec.choose_spec.1 hq
    refine k (us.take m) q _ (by rw [List.length_take, hlen]; omega) ?_ (fun u hu => hus.mem_iff.mp (List.mem_of_mem_take hu)) hq0 upd_same ((hp'.mono (by show n + 16 ≤ n + 16; omega)).new hq) (But.own (hbut.trans hb') hq0)
    have nd : us.Nodup := hus.nodup_iff.mpr (by decide +kernel)
    exact nd.sublist (List.take_sublist m us)
/-! ### errors made -/
theorem ok_BadTables_init (T : TX K mg) : FnOk P w K mg base CX0 1 T.a_BadTables_init T.fd_BadTables_init p_BadTables_init (sp_ini1 T.x_BadTables.C "table") := by
  refine T.F_BadTables_init.ok sc_BadTables_init (fun vs H Q E h => ?_) (fun cdv A outer s H vs Q E hr h => ?_)
  · obtain ⟨a, v, rfl, _⟩ := h
    rfl
  · obtain ⟨a, v, rfl, ha, k⟩ := h
    refine ⟨_, (pss_one (ps_ost (pv 0) (pv 1))), ?_⟩
    exact ⟨_, rfl, _, rfl, a, T.x_BadTables.C, rfl, T.x_BadTables.oex, T.f_BadTables_init_table, .inl ⟨ha, fun dx n ne => k dx n ne⟩⟩
theorem ok_BadFact_init (T : TX K mg) : FnOk P w K mg base CX0 1 T.a_BadFact_init T.fd_BadFact_init p_BadFact_init (sp_ini1 T.x_BadFact.C "index") := by
  refine T.F_BadFact_init.ok sc_BadFact_init (fun vs H Q E h => ?_) (fun cdv A outer s H vs Q E hr h => ?_)
  · obtain ⟨a, v, rfl, _⟩ := h
    rfl
  · obtain ⟨a, v, rfl, ha, k⟩ := h
    refine ⟨_, (pss_one (ps_ost (pv 0) (pv 1))), ?_⟩
    exact ⟨_, rfl, _, rfl, a, T.x_BadFact.C, rfl, T.x_BadFact.oex, T.f_BadFact_init_index, .inl ⟨ha, fun dx n ne => k dx n ne⟩⟩
theorem ok_BadProgram_init (T : TX K mg) : FnOk P w K mg base CX0 1 T.a_BadProgram_init T.fd_BadProgram_init p_BadProgram_init (sp_ini1 T.x_BadProgram.C "line") := by
  refine T.F_BadProgram_init.ok sc_BadProgram_init (fun vs H Q E h => ?_) (fun cdv A outer s H vs Q E hr h => ?_)
  · obtain ⟨a, v, rfl, _⟩ := h
    rfl
  · obtain ⟨a, v, rfl, ha, k⟩ := h
    refine ⟨_, (pss_one (ps_ost (pv 0) (pv 1))), ?_⟩
    exact ⟨_, rfl, _, rfl, a, T.x_BadProgram.C, rfl, T.x_BadProgram.oex, T.f_BadProgram_init_line, .inl ⟨ha, fun dx n ne => k dx n ne⟩⟩
theorem ok_NoLine_init (T : TX K mg) : FnOk P w K mg base CX0 1 T.a_NoLine_init T.fd_NoLine_init p_NoLine_init (sp_ini1 T.x_NoLine.C "line") := by
  refine T.F_NoLine_init.ok sc_NoLine_init (fun vs H Q E h => ?_) (fun cdv A outer s H vs Q E hr h => ?_)
  · obtain ⟨a, v, rfl, _⟩ := h
    rfl
  · obtain ⟨a, v, rfl, ha, k⟩ := h
    refine ⟨_, (pss_one (ps_ost (pv 0) (pv 1))), ?_⟩
    exact ⟨_, rfl, _, rfl, a, T.x_NoLine.C, rfl, T.x_NoLine.oex, T.f_NoLine_init_line, .inl ⟨ha, fun dx n ne => k dx n ne⟩⟩
theorem ok_NoKey_init (T : TX K mg) : FnOk P w K mg base CX0 1 T.a_NoKey_init T.fd_NoKey_init p_NoKey_init (sp_ini1 T.x_NoKey.C "line") := by
  refine T.F_NoKey_init.ok sc_NoKey_init (fun vs H Q E h => ?_) (fun cdv A outer s H vs Q E hr h => ?_)
  · obtain ⟨a, v, rfl, _⟩ := h
    rfl
  · obtain ⟨a, v, rfl, ha, k⟩ := h
    refine ⟨_, (pss_one (ps_ost (pv 0) (pv 1))), ?_⟩
    exact ⟨_, rfl, _, rfl, a, T.x_NoKey.C, rfl, T.x_NoKey.oex, T.f_NoKey_init_line, .inl ⟨ha, fun dx n ne => k dx n ne⟩⟩
theorem ok_NoName_init (T : TX K mg) : FnOk P w K mg base CX0 1 T.a_NoName_init T.fd_NoName_init p_NoName_init (sp_ini1 T.x_NoName.C "name") := by
  refine T.F_NoName_init.ok sc_NoName_init (fun vs H Q E h => ?_) (fun cdv A outer s H vs Q E hr h => ?_)
  · obtain ⟨a, v, rfl, _⟩ := h
    rfl
  · obtain ⟨a, v, rfl, ha, k⟩ := h
    refine ⟨_, (pss_one (ps_ost (pv 0) (pv 1))), ?_⟩
    exact ⟨_, rfl, _, rfl, a, T.x_NoName.C, rfl, T.x_NoName.oex, T.f_NoName_init_name, .inl ⟨ha, fun dx n ne => k dx n ne⟩⟩
theorem ok_BadName_init (T : TX K mg) : FnOk P w K mg base CX0 1 T.a_BadName_init T.fd_BadName_init p_BadName_init (sp_ini1 T.x_BadName.C "name") := by
  refine T.F_BadName_init.ok sc_BadName_init (fun vs H Q E h => ?_) (fun cdv A outer s H vs Q E hr h => ?_)
  · obtain ⟨a, v, rfl, _⟩ := h
    rfl
  · obtain ⟨a, v, rfl, ha, k⟩ := h
    refine ⟨_, (pss_one (ps_ost (pv 0) (pv 1))), ?_⟩
    exact ⟨_, rfl, _, rfl, a, T.x_BadName.C, rfl, T.x_BadName.oex, T.f_BadName_init_name, .inl ⟨ha, fun dx n ne => k dx n ne⟩⟩
theorem ok_Taken_init (T : TX K mg) : FnOk P w K mg base CX0 1 T.a_Taken_init T.fd_Taken_init p_Taken_init (sp_ini1 T.x_Taken.C "name") := by
  refine T.F_Taken_init.ok sc_Taken_init (fun vs H Q E h => ?_) (fun cdv A outer s H vs Q E hr h => ?_)
  · obtain ⟨a, v, rfl, _⟩ := h
    rfl
  · obtain ⟨a, v, rfl, ha, k⟩ := h
    refine ⟨_, (pss_one (ps_ost (pv 0) (pv 1))), ?_⟩
    exact ⟨_, rfl, _, rfl, a, T.x_Taken.C, rfl, T.x_Taken.oex, T.f_Taken_init_name, .inl ⟨ha, fun dx n ne => k dx n ne⟩⟩
theorem ok_BrokenFact_init (T : TX K mg) : FnOk P w K mg base CX0 1 T.a_BrokenFact_init T.fd_BrokenFact_init p_BrokenFact_init (sp_ini1 T.x_BrokenFact.C "fact") := by
  refine T.F_BrokenFact_init.ok sc_BrokenFact_init (fun vs H Q E h => ?_) (fun cdv A outer s H vs Q E hr h => ?_)
  · obtain ⟨a, v, rfl, _⟩ := h
    rfl
  · obtain ⟨a, v, rfl, ha, k⟩ := h
    refine ⟨_, (pss_one (ps_ost (pv 0) (pv 1))), ?_⟩
    exact ⟨_, rfl, _, rfl, a, T.x_BrokenFact.C, rfl, T.x_BrokenFact.oex, T.f_BrokenFact_init_fact, .inl ⟨ha, fun dx n ne => k dx n ne⟩⟩

end
end L2.Pf
set_option maxHeartbeats 2000000
namespace L2.Pf
open PySem PySem.Spec PyProof.Rows L2.Ev
/-- a dict comprehension over any walk, by a word and the number of turns -/
theorem dc_by {J : It} {n : Nat} {g : TG} {tt : TT} {tk tv : TE} {vs : List Nat} {σ : St} {H1 : Hp} {D : Addr} {Qd : Hp → Prop} (Pv : Nat → Hp → Prop) (h0 : Pv 0 (upd H1 D (.dK [])))
    (hgo : ∀ i H, i < n → Pv i H → J.go i H) (hst : ∀ H, Pv n H → J.stop n H)
    (hs : ∀ i H, i < n → Pv i H → ∀ x H', J.yld i H x H' → g x (wipe σ vs) H' fun σ2 H2 => wipe σ2 vs = wipe σ vs ∧ tt σ2 H2 fun b H3 =>
      if b = true then tk σ2 H3 fun y H4 => tv σ2 H4 fun z H5 => ∃ kvs k, y = kV k ∧ H5 D = some (.dK kvs) ∧ kvs.length < sizeLine ∧ Pv (i + 1) (upd H5 D (.dK (putK kvs k z))) else Pv (i + 1) H3) (hd : ∀ H, Pv n H → Qd H) :
    ∃ W : Nat → Nat → Hp → Prop, (∃ m, W 0 m (upd H1 D (.dK []))) ∧ ∀ i m H, W i m H → (J.stop i H ∧ Qd H) ∨ (J.go i H ∧ ∃ Nx : Hp → Prop, (∀ H', Nx H' → ∃ m', m' < m ∧ W (i + 1) m' H') ∧
      ∀ x H', J.yld i H x H' → g x (wipe σ vs) H' fun σ2 H2 => wipe σ2 vs = wipe σ vs ∧ tt σ2 H2 fun b H3 =>
        if b = true then tk σ2 H3 fun y H4 => tv σ2 H4 fun z H5 => ∃ kvs k, y = kV k ∧ H5 D = some (.dK kvs) ∧ kvs.length < sizeLine ∧ Nx (upd H5 D (.dK (putK kvs k z))) else Nx H3) := by
  refine ⟨fun i m H => i + m = n ∧ Pv i H, ⟨n, by omega, h0⟩, ?_⟩
  rintro i m H ⟨e, hp⟩
  rcases Nat.lt_or_ge i n with hi | hi
  · exact .inr ⟨hgo i H hi hp, Pv (i + 1), fun H' q => ⟨m - 1, by omega, by omega, q⟩, hs i H hi hp⟩
  · have z : i = n := by omega
    subst z
    exact .inl ⟨hst H hp, hd H hp⟩
section
variable {P : Program} {w : World} {K : PySem.W.Frag} {mg : Str → Option Value} {base : Heap}
/-- each pair's list stands in the other dict as a list of the same rows -/
def Copied (H H' : Hp) (kvs kvs' : List (Key × V)) : Prop := kvs'.length = kvs.length ∧ ∀ (i : Nat) k l xs, kvs[i]? = some (k, .ref l) → H l = some (.lst xs) → ∃ l', kvs'[i]? = some (k, .ref l') ∧ H' l' = some (.lst xs) ∧ H l' = none
def sp_copied : Sp := fun vs H Q _ => ∃ (d : Addr) (kvs : List (Key × V)), vs = [.ref d] ∧ H d = some (.dK kvs) ∧ (kvs.length ≤ 1000 ∧ (kvs.map (·.1)).Nodup) ∧ (∀ x ∈ kvs, ∃ l xs, x.2 = .ref l ∧ H l = some (.lst xs)) ∧
  ∀ r kvs' H', H r = none → Same H H' → H' r = some (.dK kvs') → Copied H H' kvs kvs' → Q (.ref r) H'
theorem ok_copied (T : TX K mg) : FnOk P w K mg base CX0 1 T.a_copied T.fd_copied p_copied sp_copied := by
  refine T.F_copied.ok sc_copied (fun vs H Q E h => ?_) (fun cdv A outer s H vs Q E hr h => ?_)
  · obtain ⟨d, kvs, rfl, _⟩ := h
    rfl
  · obtain ⟨d, kvs, rfl, hd, ⟨hl, hnd⟩, hv, k⟩ := h
    refine ⟨_, (pss_cons (ps_if (pt_not (pt_val (pe_callB call_isi (by rfl) T.z_isinstance (by decide +kernel) (pa_cons (pv 0) (pa_cons (pe_bltn (v := .ty "dict") (u := .type "dict") (by rfl) T.z_dict (by decide +kernel) rfl) pa_nil))))) (pss_one (ps_ret (pv 0))) pss_nil)
  (pss_one (ps_ret (pe_lock (pe_dc (own := [("table", 1), ("rows", 2)]) (g := gTup K 2 (gCons (gName 1) (gCons (gName 2) gNil))) (tt := tYes) rfl sc_copied.nd (pi_items (pv 0)) (blkOk_by (own := [("table", 1), ("rows", 2)]) (N := n_copied) (sc := defScope s_copied) (by decide +kernel)) (fun _ _ _ _ _ => (pg_tup rfl (pgs_cons (pg_name (i := 1) sc_copied.nd rfl (Or.inl rfl)) (pgs_cons (pg_name (i := 2) sc_copied.nd rfl (Or.inl rfl)) pgs_nil)))) (fun _ _ _ _ _ => pts_nil) (fun _ _ _ _ _ => (pv 1)) (fun _ _ _ _ _ => (pe_callTy (list_ofK (K := K)) (by rfl) T.z_list (by decide +kernel) (pa_cons (pv 2) pa_nil)))))))), ?_⟩
    refine ⟨_, rfl, _, _, _, _, true, rfl, .ty _, .base (.dK hd), kit_ty (by decide +kernel), _, rfl, ?_⟩
    refine iteF ?_
    refine ⟨d, .dK kvs, hd, trivial, fun od => ?_⟩
    have hfd : (upd H d (.frz od (.dK kvs))) d = some (.frz od (.dK kvs)) := upd_same
    have hfo : ∀ b o, b ≠ d → H b = some o → (upd H d (.frz od (.dK kvs))) b = some o := fun b o n e => by rw [upd_ne n]; exact e
    generalize hHl : upd H d (.frz od (.dK kvs)) = Hl at hfd hfo
    refine ⟨_, rfl, d, od, kvs, rfl, hfd, fun D hD => ?_⟩
    have nDd : D ≠ d := Ne.symm (ne_of_none hfd hD)
    refine dc_by (n := kvs.length) (fun i Hc => Same Hl Hc ∧ ∃ kvs', Hc D = some (.dK kvs') ∧ kvs'.length = i ∧ kvs'.map (·.1) = (kvs.map (·.1)).take i ∧
      ∀ (j : Nat) key l xs, j < i → kvs[j]? = some (key, .ref l) → H l = some (.lst xs) → ∃ l', kvs'[j]? = some (key, .ref l') ∧ Hc l' = some (.lst xs) ∧ H l' = none) ?_ ?_ ?_ ?_ ?_
    · exact ⟨Same.new (Same.refl Hl) hD, [], upd_same, rfl, rfl, fun j _ _ _ hj => absurd hj (by omega)⟩
    · rintro i Hc hi ⟨hs, _⟩
      exact ⟨hs _ _ hfd, hi⟩
    · rintro Hc ⟨hs, _⟩
      exact ⟨hs _ _ hfd, Nat.le_refl _⟩
    · rintro i Hc hi ⟨hs, kvs', e1, e2, e3, e4⟩ x H' ⟨t, key, v, hkv, rfl, ht, rfl⟩
      obtain ⟨l, xs, el, hxs⟩ := hv _ (List.mem_of_getElem? hkv)
      have el' : v = .ref l := el
      subst el'
      refine ⟨t, _, rfl, SqT.of upd_same, rfl, kV key, [.ref l], rfl, .ref l, [], rfl, rfl, rfl, ?_⟩
      have nld : l ≠ d := fun z => by
        rw [z, hd] at hxs
        cases hxs
      have hlc : Hc l = some (.lst xs) := hs _ _ (hfo _ _ nld hxs)
      refine ⟨_, rfl, _, rfl, l, _, rfl, .inl (SqL.of (by rw [upd_ne (ne_of_none hlc ht)]; exact hlc)), fun l' hl' => ?_⟩
      have ntD : D ≠ t := ne_of_none e1 ht
      have nl't : l' ≠ t := fun z => by
        rw [z, upd_same] at hl'
        cases hl'
      have hl'c : Hc l' = none := by
        rw [upd_ne nl't] at hl'
        exact hl'
      have nl'D : l' ≠ D := Ne.symm (ne_of_none e1 hl'c)
      have hno : valV kvs' key = none := by
        cases ev : valV kvs' key with
        | none => rfl
        | some u =>
          have hm := valV_in ev
          rw [e3] at hm
          obtain ⟨j, hj, ej⟩ := List.mem_iff_getElem.mp hm
          rw [List.length_take, List.length_map] at hj
          rw [List.getElem_take] at ej
          have h1 : (kvs.map (·.1))[j]? = some key := by rw [List.getElem?_eq_getElem (by rw [List.length_map]; omega), ej]
          have h2 : (kvs.map (·.1))[i]? = some key := by rw [List.getElem?_map, hkv]; rfl
          have z := nd_ix hnd h1 h2
          omega
      refine ⟨kvs', key, rfl, by rw [upd_ne (Ne.symm nl'D), upd_ne ntD]; exact e1, small1000 (by omega), ?_⟩
      rw [putK_new _ hno]
      refine ⟨Same.own (Same.new (Same.new hs ht) hl') hD, _, upd_same, by rw [List.length_append, e2]; rfl, ?_, ?_⟩
      · rw [List.map_append, e3, List.take_succ, List.getElem?_map, hkv]
        rfl
      · intro j key' l2 xs2 hj hk2 hx2
        by_cases ji : j = i
        · subst ji
          rw [hkv] at hk2
          cases hk2
          rw [hxs] at hx2
          cases hx2
          refine ⟨l', by rw [List.getElem?_append_right (by omega), e2, Nat.sub_self]; rfl, by rw [upd_ne nl'D, upd_same], ?_⟩
          cases z : H l' with
          | none => rfl
          | some o =>
            by_cases zd : l' = d
            · rw [zd, hs _ _ hfd] at hl'c
              cases hl'c
            · rw [hs _ _ (hfo _ _ zd z)] at hl'c
              cases hl'c
        · obtain ⟨l3, h3, h4, h5⟩ := e4 j key' l2 xs2 (by omega) hk2 hx2
          have n3 : l3 ≠ D := fun z => by
            rw [z, e1] at h4
            cases h4
          refine ⟨l3, by rw [List.getElem?_append_left (by omega)]; exact h3, ?_, h5⟩
          rw [upd_ne n3, upd_ne (ne_of_none h4 hl'c), upd_ne (ne_of_none h4 ht)]
          exact h4
    · rintro Hc ⟨hs, kvs', e1, e2, e3, e4⟩
      refine ⟨hs _ _ hfd, ?_⟩
      have hDn : H D = none := by
        rw [← hHl, upd_ne nDd] at hD
        exact hD
      refine k D kvs' _ hDn (fun b o e => ?_) (by rw [upd_ne nDd]; exact e1) ⟨e2, fun i key l xs h1 h2 => ?_⟩
      · by_cases z : b = d
        · subst z
          rw [upd_same, ← e, hd]
        · rw [upd_ne z]
          exact hs _ _ (hfo _ _ z e)
      · obtain ⟨l', h3, h4, h5⟩ := e4 i key l xs (List.getElem?_eq_some_iff.mp h1).1 h1 h2
        refine ⟨l', h3, ?_, h5⟩
        rw [upd_ne (fun z => by rw [z, hs _ _ hfd] at h4; cases h4)]
        exact h4
def sp_ini2 (C : Addr) : Sp := fun vs H Q _ => ∃ (a : Addr) (v : V) (d : Addr) (kvs : List (Key × V)), vs = [.ref a, v, .ref d] ∧ H a = some (exo a C none) ∧ H d = some (.dK kvs) ∧ (kvs.length ≤ 1000 ∧ (kvs.map (·.1)).Nodup) ∧
  (∀ x ∈ kvs, ∃ l xs, x.2 = .ref l ∧ H l = some (.lst xs)) ∧
  ∀ dx r kvs' H', H dx = none → H r = none → But a H H' → H' a = some (exo a C (some dx)) → H' dx = some (exd dx [("tables", .ref r), ("name", v)]) → H' r = some (.dK kvs') → Copied H H' kvs kvs' → Q .non H'
theorem ok_NotAlike_init (T : TX K mg) : FnOk P w K mg base CX0 2 T.a_NotAlike_init T.fd_NotAlike_init p_NotAlike_init (sp_ini2 T.x_NotAlike.C) := by
  refine T.F_NotAlike_init.ok sc_NotAlike_init (fun vs H Q E h => ?_) (fun cdv A outer s H vs Q E hr h => ?_)
  · obtain ⟨a, v, d, kvs, rfl, _⟩ := h
    rfl
  · obtain ⟨a, v, d, kvs, rfl, ha, hd, hl, hv, k⟩ := h
    refine ⟨_, (pss_cons (ps_ost (pv 0) (pv 1))
  (pss_one (ps_ost (pv 0) (pe_call (ok_copied T) (hr.mono (by decide)) rfl T.g_copied T.F_copied.kp T.b_copied .nil pass0 (pa_cons (pv 2) pa_nil))))), ?_⟩
    refine ⟨_, rfl, _, rfl, a, T.x_NotAlike.C, rfl, T.x_NotAlike.oex, T.f_NotAlike_init_name, .inl ⟨ha, fun dx n ne => ?_⟩⟩
    have nal : ∀ {b : Addr} {xs : List V}, H b = some (.lst xs) → b ≠ a := fun {b xs} e z => by
      rw [z, ha] at e
      exact absurd (show exo a T.x_NotAlike.C none = HO.lst xs from Option.some.inj e) (fun q => by have q' : HO.ext _ = HO.lst xs := q; cases q')
    have nad : d ≠ a := fun z => by
      rw [z, ha] at hd
      exact absurd (show exo a T.x_NotAlike.C none = HO.dK kvs from Option.some.inj hd) (fun q => by have q' : HO.ext _ = HO.dK kvs := q; cases q')
    have e1 : (upd (upd H dx (exd dx [("name", v)])) a (exo a T.x_NotAlike.C (some dx))) a = some (exo a T.x_NotAlike.C (some dx)) := upd_same
    have e2 : (upd (upd H dx (exd dx [("name", v)])) a (exo a T.x_NotAlike.C (some dx))) dx = some (exd dx [("name", v)]) := by rw [upd_ne ne, upd_same]
    have old : But a H (upd (upd H dx (exd dx [("name", v)])) a (exo a T.x_NotAlike.C (some dx))) := But.self (But.own (But.refl a H) n)
    generalize upd (upd H dx (exd dx [("name", v)])) a (exo a T.x_NotAlike.C (some dx)) = H1 at e1 e2 old
    refine ⟨_, rfl, d, kvs, rfl, old _ _ nad hd, hl, fun x hx => ?_, fun r kvs' H' hr' s' e' h' => ?_⟩
    · obtain ⟨l, xs, ex, el⟩ := hv x hx
      exact ⟨l, xs, ex, old _ _ (nal el) el⟩
    · have f1 := s' _ _ e1
      have f2 := s' _ _ e2
      have b2 : But a H H' := old.trans (But.of s')
      have nr : r ≠ dx := fun z => by
        rw [z, e2] at hr'
        cases hr'
      have hr0 : H r = none := But.free old e1 hr'
      refine ⟨_, rfl, a, T.x_NotAlike.C, rfl, T.x_NotAlike.oex, T.f_NotAlike_init_tables, .inr ⟨dx, _, f1, f2, by show 1 ≤ 900; decide, ?_⟩⟩
      refine k dx r kvs' _ n hr0 (But.own b2 n) (by rw [upd_ne (Ne.symm ne)]; exact f1) upd_same (by rw [upd_ne nr]; exact e') ⟨h'.1, fun i key l xs q1 q2 => ?_⟩
      obtain ⟨l', q3, q4, q5⟩ := h'.2 i key l xs q1 (old _ _ (nal q2) q2)
      refine ⟨l', q3, ?_, But.free old e1 q5⟩
      rw [upd_ne (fun z => by
        rw [z, f2] at q4
        exact absurd (show exd dx [("name", v)] = HO.lst xs from Option.some.inj q4) (fun q => by have q' : HO.ext _ = HO.lst xs := q; cases q'))]
      exact q4
theorem ok_Rests_init (T : TX K mg) : FnOk P w K mg base CX0 2 T.a_Rests_init T.fd_Rests_init p_Rests_init (sp_ini2 T.x_Rests.C) := by
  refine T.F_Rests_init.ok sc_Rests_init (fun vs H Q E h => ?_) (fun cdv A outer s H vs Q E hr h => ?_)
  · obtain ⟨a, v, d, kvs, rfl, _⟩ := h
    rfl
  · obtain ⟨a, v, d, kvs, rfl, ha, hd, hl, hv, k⟩ := h
    refine ⟨_, (pss_cons (ps_ost (pv 0) (pv 1))
  (pss_one (ps_ost (pv 0) (pe_call (ok_copied T) (hr.mono (by decide)) rfl T.g_copied T.F_copied.kp T.b_copied .nil pass0 (pa_cons (pv 2) pa_nil))))), ?_⟩
    refine ⟨_, rfl, _, rfl, a, T.x_Rests.C, rfl, T.x_Rests.oex, T.f_Rests_init_name, .inl ⟨ha, fun dx n ne => ?_⟩⟩
    have nal : ∀ {b : Addr} {xs : List V}, H b = some (.lst xs) → b ≠ a := fun {b xs} e z => by
      rw [z, ha] at e
      exact absurd (show exo a T.x_Rests.C none = HO.lst xs from Option.some.inj e) (fun q => by have q' : HO.ext _ = HO.lst xs := q; cases q')
    have nad : d ≠ a := fun z => by
      rw [z, ha] at hd
      exact absurd (show exo a T.x_Rests.C none = HO.dK kvs from Option.some.inj hd) (fun q => by have q' : HO.ext _ = HO.dK kvs := q; cases q')
    have e1 : (upd (upd H dx (exd dx [("name", v)])) a (exo a T.x_Rests.C (some dx))) a = some (exo a T.x_Rests.C (some dx)) := upd_same
    have e2 : (upd (upd H dx (exd dx [("name", v)])) a (exo a T.x_Rests.C (some dx))) dx = some (exd dx [("name", v)]) := by rw [upd_ne ne, upd_same]
    have old : But a H (upd (upd H dx (exd dx [("name", v)])) a (exo a T.x_Rests.C (some dx))) := But.self (But.own (But.refl a H) n)
    generalize upd (upd H dx (exd dx [("name", v)])) a (exo a T.x_Rests.C (some dx)) = H1 at e1 e2 old
    refine ⟨_, rfl, d, kvs, rfl, old _ _ nad hd, hl, fun x hx => ?_, fun r kvs' H' hr' s' e' h' => ?_⟩
    · obtain ⟨l, xs, ex, el⟩ := hv x hx
      exact ⟨l, xs, ex, old _ _ (nal el) el⟩
    · have f1 := s' _ _ e1
      have f2 := s' _ _ e2
      have b2 : But a H H' := old.trans (But.of s')
      have nr : r ≠ dx := fun z => by
        rw [z, e2] at hr'
        cases hr'
      have hr0 : H r = none := But.free old e1 hr'
      refine ⟨_, rfl, a, T.x_Rests.C, rfl, T.x_Rests.oex, T.f_Rests_init_tables, .inr ⟨dx, _, f1, f2, by show 1 ≤ 900; decide, ?_⟩⟩
      refine k dx r kvs' _ n hr0 (But.own b2 n) (by rw [upd_ne (Ne.symm ne)]; exact f1) upd_same (by rw [upd_ne nr]; exact e') ⟨h'.1, fun i key l xs q1 q2 => ?_⟩
      obtain ⟨l', q3, q4, q5⟩ := h'.2 i key l xs q1 (old _ _ (nal q2) q2)
      refine ⟨l', q3, ?_, But.free old e1 q5⟩
      rw [upd_ne (fun z => by
        rw [z, f2] at q4
        exact absurd (show exd dx [("name", v)] = HO.lst xs from Option.some.inj q4) (fun q => by have q' : HO.ext _ = HO.lst xs := q; cases q'))]
      exact q4

end
end L2.Pf
set_option maxHeartbeats 4000000
namespace L2.Ev
open PySem PySem.Spec PyProof.Rows
theorem XC.bit {K : PySem.W.Frag} {mg : Str → Option Value} {nm nm' : Str} {up up' : List Value} (x : XC K mg nm up) (y : XC K mg nm' up') (le : XC K mg "LookError" HandSPX.veTail) (hup : up = .ref le.C :: HandSPX.veTail ∨ up = HandSPX.veTail) (hn : nm' ≠ "LookError") :
    PySem.W.kitOne K (.ref x.C) (.ref y.C) = some (decide (nm = nm')) := by
  rw [x.kit y]
  congr 1
  have hv : HandSPX.veTail.contains (Value.ref y.C) = false := by
    simp [HandSPX.veTail]
  have hl : (Value.ref y.C == Value.ref le.C) = false := by
    simp [y.ne le hn]
  rw [List.contains_cons]
  have hu : up.contains (Value.ref y.C) = false := by
    rcases hup with e | e
    · rw [e, List.contains_cons, hl, hv]
      rfl
    · rw [e, hv]
  rw [hu, Bool.or_false]
  by_cases e : nm = nm'
  · subst e
    have z : x.C = y.C := by
      exact Value.ref.inj (Option.some.inj (x.g.symm.trans y.g))
    rw [z]
    simp
  · have z := (x.ne y e).symm
    rw [decide_eq_false e]
    simp [z]
theorem IsEx.same {H H' : Hp} {a C : Addr} (e : IsEx H a C) (s : Same H H') : IsEx H' a C := by
  rcases e with ⟨dx, fs, h1, h2⟩ | h
  · exact .inl ⟨dx, fs, s _ _ h1, s _ _ h2⟩
  · exact .inr (s _ _ h)
end L2.Ev
namespace L2.Pf
open PySem PySem.Spec PyProof.Rows L2.Ev
section
variable {P : Program} {w : World} {K : PySem.W.Frag} {mg : Str → Option Value} {base : Heap}
def CLS : List Str := ["BadTables", "BadFact", "BadProgram", "OtherTables", "NoLine", "NoKey", "NoName", "BadName", "Taken", "NotAlike", "Rests", "BrokenFact", "NothingToUndo"]
/-- the places among the classes that bear the name -/
def idx (nm : Str) : List V := ((List.range 13).filter fun k => decide (CLS[k]? = some nm)).map fun k : Nat => V.int (k : Int)
def sp_classes (T : TX K mg) : Sp := fun vs H Q _ => ∃ (a : Addr) (nm : Str) (up : List Value) (x : XC K mg nm up), vs = [.ref a] ∧ IsEx H a x.C ∧ (up = .ref T.x_LookError.C :: HandSPX.veTail ∨ (up = HandSPX.veTail ∧ nm = "LookError")) ∧
  ∀ r H', H r = none → Same H H' → H' r = some (.lst (idx nm)) → Q (.ref r) H'
theorem ok_classes (T : TX K mg) : FnOk P w K mg base CX0 1 T.a_classes T.fd_classes p_classes (sp_classes T) := by
  refine T.F_classes.ok sc_classes (fun vs H Q E h => ?_) (fun cdv A outer s H vs Q E hr h => ?_)
  · obtain ⟨a, nm, up, x, rfl, _⟩ := h
    rfl
  · obtain ⟨a, nm, up, x, rfl, he, hup0, k⟩ := h
    have hup : up = .ref T.x_LookError.C :: HandSPX.veTail ∨ up = HandSPX.veTail := hup0.imp (fun z => z) (fun z => z.1)
    have hle : PySem.W.kitOne K (.ref x.C) (.ref T.x_LookError.C) = some true := by
      rw [x.kit]
      congr 1
      rcases hup0 with e | ⟨e, en⟩
      · subst e
        simp
      · subst en
        have q : x.C = T.x_LookError.C := Value.ref.inj (Option.some.inj (x.g.symm.trans T.x_LookError.g))
        rw [q]
        simp
    refine ⟨_, (pss_cons (ps_set (i := 1) sc_classes.nd rfl (Or.inr rfl) (pe_lst (pa_cons (pe_callB call_isV (by rfl) T.z_isinstance (by decide +kernel) (pa_cons (pv 0) (pa_cons (pe_glob (v := .ref T.x_BadTables.C) rfl T.x_BadTables.g rfl) pa_nil))) (pa_cons (pe_callB call_isV (by rfl) T.z_isinstance (by decide +kernel) (pa_cons (pv 0) (pa_cons (pe_glob (v := .ref T.x_BadFact.C) rfl T.x_BadFact.g rfl) pa_nil))) (pa_cons (pe_callB call_isV (by rfl) T.z_isinstance (by decide +kernel) (pa_cons (pv 0) (pa_cons (pe_glob (v := .ref T.x_BadProgram.C) rfl T.x_BadProgram.g rfl) pa_nil))) (pa_cons (pe_callB call_isV (by rfl) T.z_isinstance (by decide +kernel) (pa_cons (pv 0) (pa_cons (pe_glob (v := .ref T.x_OtherTables.C) rfl T.x_OtherTables.g rfl) pa_nil))) pa_nil))))))
  (pss_cons (ps_set (i := 1) sc_classes.nd rfl (Or.inr rfl) (pe_op op_cat (pv 1) (pe_lst (pa_cons (pe_callB call_isV (by rfl) T.z_isinstance (by decide +kernel) (pa_cons (pv 0) (pa_cons (pe_glob (v := .ref T.x_NoLine.C) rfl T.x_NoLine.g rfl) pa_nil))) (pa_cons (pe_callB call_isV (by rfl) T.z_isinstance (by decide +kernel) (pa_cons (pv 0) (pa_cons (pe_glob (v := .ref T.x_NoKey.C) rfl T.x_NoKey.g rfl) pa_nil))) (pa_cons (pe_callB call_isV (by rfl) T.z_isinstance (by decide +kernel) (pa_cons (pv 0) (pa_cons (pe_glob (v := .ref T.x_NoName.C) rfl T.x_NoName.g rfl) pa_nil))) (pa_cons (pe_callB call_isV (by rfl) T.z_isinstance (by decide +kernel) (pa_cons (pv 0) (pa_cons (pe_glob (v := .ref T.x_BadName.C) rfl T.x_BadName.g rfl) pa_nil))) pa_nil)))))))
  (pss_cons (ps_set (i := 1) sc_classes.nd rfl (Or.inr rfl) (pe_op op_cat (pv 1) (pe_lst (pa_cons (pe_callB call_isV (by rfl) T.z_isinstance (by decide +kernel) (pa_cons (pv 0) (pa_cons (pe_glob (v := .ref T.x_Taken.C) rfl T.x_Taken.g rfl) pa_nil))) (pa_cons (pe_callB call_isV (by rfl) T.z_isinstance (by decide +kernel) (pa_cons (pv 0) (pa_cons (pe_glob (v := .ref T.x_NotAlike.C) rfl T.x_NotAlike.g rfl) pa_nil))) (pa_cons (pe_callB call_isV (by rfl) T.z_isinstance (by decide +kernel) (pa_cons (pv 0) (pa_cons (pe_glob (v := .ref T.x_Rests.C) rfl T.x_Rests.g rfl) pa_nil))) (pa_cons (pe_callB call_isV (by rfl) T.z_isinstance (by decide +kernel) (pa_cons (pv 0) (pa_cons (pe_glob (v := .ref T.x_BrokenFact.C) rfl T.x_BrokenFact.g rfl) pa_nil))) pa_nil)))))))
  (pss_cons (ps_expr (pe_bm PySem.F.plainAttrs_list PySem.F.slot_list_append PySem.F.type_list_append mt_append (pv 1) (pa_cons (pe_callB call_isV (by rfl) T.z_isinstance (by decide +kernel) (pa_cons (pv 0) (pa_cons (pe_glob (v := .ref T.x_NothingToUndo.C) rfl T.x_NothingToUndo.g rfl) pa_nil))) pa_nil)))
  (pss_join (ps_if (PW.pt (pw_or (pt_not (pt_val (pe_callB call_isV (by rfl) T.z_isinstance (by decide +kernel) (pa_cons (pv 0) (pa_cons (pe_glob (v := .ref T.x_LookError.C) rfl T.x_LookError.g rfl) pa_nil))))) (pw_or1 (pt_not (pt_val (pe_callB call_isV (by rfl) T.z_isinstance (by decide +kernel) (pa_cons (pv 0) (pa_cons (pe_bltn (v := .ty "ValueError") (u := .type "ValueError") (by rfl) T.z_ValueError (by decide +kernel) rfl) pa_nil)))))))) (pss_one (ps_ret (pe_lst pa_nil))) pss_nil)
  (pss_one (ps_ret (pe_lc (own := [("_law_k", 2)]) (g := gName 2) (tt := _) rfl sc_classes.nd (pi_range1 (by rfl) T.z_range (pa_cons pe_int pa_nil)) (blkOk_by (own := [("_law_k", 2)]) (N := n_classes) (sc := defScope s_classes) (by decide +kernel)) (fun _ _ _ _ _ => (pg_name (i := 2) sc_classes.nd rfl (Or.inl rfl))) (fun _ _ _ _ _ => pts_one (pt_val (pe_ix (ix_listK (K := K)) (pv 1) (pv 2) (fun _ _ => rfl)))) (fun _ _ _ _ _ => (pv 2)))))))))), ?_⟩
    refine ⟨_, rfl, a, x.C, _, _, _, rfl, .own _, he, x.exc, x.bit T.x_BadTables T.x_LookError hup (by decide +kernel), _, rfl, a, x.C, _, _, _, rfl, .own _, he, x.exc, x.bit T.x_BadFact T.x_LookError hup (by decide +kernel), _, rfl, a, x.C, _, _, _, rfl, .own _, he, x.exc, x.bit T.x_BadProgram T.x_LookError hup (by decide +kernel), _, rfl, a, x.C, _, _, _, rfl, .own _, he, x.exc, x.bit T.x_OtherTables T.x_LookError hup (by decide +kernel), by show 4 ≤ sizeLine; decide, fun f1 h1 => ?_⟩
    have s1 : Same H (upd H f1 (.lst [V.bl (decide (nm = "BadTables")), V.bl (decide (nm = "BadFact")), V.bl (decide (nm = "BadProgram")), V.bl (decide (nm = "OtherTables"))])) := Same.new (Same.refl H) h1
    have e1 : (upd H f1 (.lst [V.bl (decide (nm = "BadTables")), V.bl (decide (nm = "BadFact")), V.bl (decide (nm = "BadProgram")), V.bl (decide (nm = "OtherTables"))])) f1 = some (.lst [V.bl (decide (nm = "BadTables")), V.bl (decide (nm = "BadFact")), V.bl (decide (nm = "BadProgram")), V.bl (decide (nm = "OtherTables"))]) := upd_same
    generalize upd H f1 (.lst [V.bl (decide (nm = "BadTables")), V.bl (decide (nm = "BadFact")), V.bl (decide (nm = "BadProgram")), V.bl (decide (nm = "OtherTables"))]) = H1 at s1 e1
    replace he := he.same s1
    refine ⟨_, rfl, _, rfl, a, x.C, _, _, _, rfl, .own _, he, x.exc, x.bit T.x_NoLine T.x_LookError hup (by decide +kernel), _, rfl, a, x.C, _, _, _, rfl, .own _, he, x.exc, x.bit T.x_NoKey T.x_LookError hup (by decide +kernel), _, rfl, a, x.C, _, _, _, rfl, .own _, he, x.exc, x.bit T.x_NoName T.x_LookError hup (by decide +kernel), _, rfl, a, x.C, _, _, _, rfl, .own _, he, x.exc, x.bit T.x_BadName T.x_LookError hup (by decide +kernel), by show 4 ≤ sizeLine; decide, fun f2 h2 => ?_⟩
    have n12 := ne_of_none e1 h2
    refine ⟨f1, f2, _, _, rfl, rfl, by rw [upd_ne n12]; exact e1, upd_same, by show 8 ≤ sizeLine; decide, fun f3 h3 => ?_⟩
    have s3 := Same.new (o := .lst ([V.bl (decide (nm = "BadTables")), V.bl (decide (nm = "BadFact")), V.bl (decide (nm = "BadProgram")), V.bl (decide (nm = "OtherTables"))] ++ [V.bl (decide (nm = "NoLine")), V.bl (decide (nm = "NoKey")), V.bl (decide (nm = "NoName")), V.bl (decide (nm = "BadName"))])) (Same.new (o := .lst [V.bl (decide (nm = "NoLine")), V.bl (decide (nm = "NoKey")), V.bl (decide (nm = "NoName")), V.bl (decide (nm = "BadName"))]) s1 h2) h3
    have e3 : (upd (upd H1 f2 (.lst [V.bl (decide (nm = "NoLine")), V.bl (decide (nm = "NoKey")), V.bl (decide (nm = "NoName")), V.bl (decide (nm = "BadName"))])) f3 (.lst ([V.bl (decide (nm = "BadTables")), V.bl (decide (nm = "BadFact")), V.bl (decide (nm = "BadProgram")), V.bl (decide (nm = "OtherTables"))] ++ [V.bl (decide (nm = "NoLine")), V.bl (decide (nm = "NoKey")), V.bl (decide (nm = "NoName")), V.bl (decide (nm = "BadName"))]))) f3 = some (.lst ([V.bl (decide (nm = "BadTables")), V.bl (decide (nm = "BadFact")), V.bl (decide (nm = "BadProgram")), V.bl (decide (nm = "OtherTables"))] ++ [V.bl (decide (nm = "NoLine")), V.bl (decide (nm = "NoKey")), V.bl (decide (nm = "NoName")), V.bl (decide (nm = "BadName"))])) := upd_same
    have t3 := Same.new (o := .lst ([V.bl (decide (nm = "BadTables")), V.bl (decide (nm = "BadFact")), V.bl (decide (nm = "BadProgram")), V.bl (decide (nm = "OtherTables"))] ++ [V.bl (decide (nm = "NoLine")), V.bl (decide (nm = "NoKey")), V.bl (decide (nm = "NoName")), V.bl (decide (nm = "BadName"))])) (Same.new (o := .lst [V.bl (decide (nm = "NoLine")), V.bl (decide (nm = "NoKey")), V.bl (decide (nm = "NoName")), V.bl (decide (nm = "BadName"))]) (Same.refl H1) h2) h3
    generalize upd (upd H1 f2 (.lst [V.bl (decide (nm = "NoLine")), V.bl (decide (nm = "NoKey")), V.bl (decide (nm = "NoName")), V.bl (decide (nm = "BadName"))])) f3 (.lst ([V.bl (decide (nm = "BadTables")), V.bl (decide (nm = "BadFact")), V.bl (decide (nm = "BadProgram")), V.bl (decide (nm = "OtherTables"))] ++ [V.bl (decide (nm = "NoLine")), V.bl (decide (nm = "NoKey")), V.bl (decide (nm = "NoName")), V.bl (decide (nm = "BadName"))])) = H3 at s3 e3 t3
    replace he := he.same t3
    clear t3
    refine ⟨_, rfl, _, rfl, a, x.C, _, _, _, rfl, .own _, he, x.exc, x.bit T.x_Taken T.x_LookError hup (by decide +kernel), _, rfl, a, x.C, _, _, _, rfl, .own _, he, x.exc, x.bit T.x_NotAlike T.x_LookError hup (by decide +kernel), _, rfl, a, x.C, _, _, _, rfl, .own _, he, x.exc, x.bit T.x_Rests T.x_LookError hup (by decide +kernel), _, rfl, a, x.C, _, _, _, rfl, .own _, he, x.exc, x.bit T.x_BrokenFact T.x_LookError hup (by decide +kernel), by show 4 ≤ sizeLine; decide, fun f4 h4 => ?_⟩
    have n34 := ne_of_none e3 h4
    refine ⟨f3, f4, _, _, rfl, rfl, by rw [upd_ne n34]; exact e3, upd_same, by show 12 ≤ sizeLine; decide, fun f5 h5 => ?_⟩
    have s5 := Same.new (o := .lst ([V.bl (decide (nm = "BadTables")), V.bl (decide (nm = "BadFact")), V.bl (decide (nm = "BadProgram")), V.bl (decide (nm = "OtherTables"))] ++ [V.bl (decide (nm = "NoLine")), V.bl (decide (nm = "NoKey")), V.bl (decide (nm = "NoName")), V.bl (decide (nm = "BadName"))] ++ [V.bl (decide (nm = "Taken")), V.bl (decide (nm = "NotAlike")), V.bl (decide (nm = "Rests")), V.bl (decide (nm = "BrokenFact"))])) (Same.new (o := .lst [V.bl (decide (nm = "Taken")), V.bl (decide (nm = "NotAlike")), V.bl (decide (nm = "Rests")), V.bl (decide (nm = "BrokenFact"))]) s3 h4) h5
    have e5 : (upd (upd H3 f4 (.lst [V.bl (decide (nm = "Taken")), V.bl (decide (nm = "NotAlike")), V.bl (decide (nm = "Rests")), V.bl (decide (nm = "BrokenFact"))])) f5 (.lst ([V.bl (decide (nm = "BadTables")), V.bl (decide (nm = "BadFact")), V.bl (decide (nm = "BadProgram")), V.bl (decide (nm = "OtherTables"))] ++ [V.bl (decide (nm = "NoLine")), V.bl (decide (nm = "NoKey")), V.bl (decide (nm = "NoName")), V.bl (decide (nm = "BadName"))] ++ [V.bl (decide (nm = "Taken")), V.bl (decide (nm = "NotAlike")), V.bl (decide (nm = "Rests")), V.bl (decide (nm = "BrokenFact"))]))) f5 = some (.lst ([V.bl (decide (nm = "BadTables")), V.bl (decide (nm = "BadFact")), V.bl (decide (nm = "BadProgram")), V.bl (decide (nm = "OtherTables"))] ++ [V.bl (decide (nm = "NoLine")), V.bl (decide (nm = "NoKey")), V.bl (decide (nm = "NoName")), V.bl (decide (nm = "BadName"))] ++ [V.bl (decide (nm = "Taken")), V.bl (decide (nm = "NotAlike")), V.bl (decide (nm = "Rests")), V.bl (decide (nm = "BrokenFact"))])) := upd_same
    have t5 := Same.new (o := .lst ([V.bl (decide (nm = "BadTables")), V.bl (decide (nm = "BadFact")), V.bl (decide (nm = "BadProgram")), V.bl (decide (nm = "OtherTables"))] ++ [V.bl (decide (nm = "NoLine")), V.bl (decide (nm = "NoKey")), V.bl (decide (nm = "NoName")), V.bl (decide (nm = "BadName"))] ++ [V.bl (decide (nm = "Taken")), V.bl (decide (nm = "NotAlike")), V.bl (decide (nm = "Rests")), V.bl (decide (nm = "BrokenFact"))])) (Same.new (o := .lst [V.bl (decide (nm = "Taken")), V.bl (decide (nm = "NotAlike")), V.bl (decide (nm = "Rests")), V.bl (decide (nm = "BrokenFact"))]) (Same.refl H3) h4) h5
    generalize upd (upd H3 f4 (.lst [V.bl (decide (nm = "Taken")), V.bl (decide (nm = "NotAlike")), V.bl (decide (nm = "Rests")), V.bl (decide (nm = "BrokenFact"))])) f5 (.lst ([V.bl (decide (nm = "BadTables")), V.bl (decide (nm = "BadFact")), V.bl (decide (nm = "BadProgram")), V.bl (decide (nm = "OtherTables"))] ++ [V.bl (decide (nm = "NoLine")), V.bl (decide (nm = "NoKey")), V.bl (decide (nm = "NoName")), V.bl (decide (nm = "BadName"))] ++ [V.bl (decide (nm = "Taken")), V.bl (decide (nm = "NotAlike")), V.bl (decide (nm = "Rests")), V.bl (decide (nm = "BrokenFact"))])) = H5 at s5 e5 t5
    replace he := he.same t5
    clear t5
    have nf5 : H f5 = none := by
      cases z : H f5 with
      | none => rfl
      | some o =>
        have q := s5 _ _ z
        have q3 := s3 _ _ z
        rw [upd_ne (ne_of_none q3 h4)] at h5
        rw [q3] at h5
        cases h5
    refine ⟨_, rfl, .inl ⟨rfl, _, SqL.of e5⟩, _, rfl, a, x.C, _, _, _, rfl, .own _, he, x.exc, x.bit T.x_NothingToUndo T.x_LookError hup (by decide +kernel), f5, _, _, rfl, rfl, e5, by show 12 < sizeLine; decide, ?_⟩
    have s6 := Same.own (o := .lst (([V.bl (decide (nm = "BadTables")), V.bl (decide (nm = "BadFact")), V.bl (decide (nm = "BadProgram")), V.bl (decide (nm = "OtherTables"))] ++ [V.bl (decide (nm = "NoLine")), V.bl (decide (nm = "NoKey")), V.bl (decide (nm = "NoName")), V.bl (decide (nm = "BadName"))] ++ [V.bl (decide (nm = "Taken")), V.bl (decide (nm = "NotAlike")), V.bl (decide (nm = "Rests")), V.bl (decide (nm = "BrokenFact"))]) ++ [V.bl (decide (nm = "NothingToUndo"))])) s5 nf5
    have e6 : (upd H5 f5 (.lst (([V.bl (decide (nm = "BadTables")), V.bl (decide (nm = "BadFact")), V.bl (decide (nm = "BadProgram")), V.bl (decide (nm = "OtherTables"))] ++ [V.bl (decide (nm = "NoLine")), V.bl (decide (nm = "NoKey")), V.bl (decide (nm = "NoName")), V.bl (decide (nm = "BadName"))] ++ [V.bl (decide (nm = "Taken")), V.bl (decide (nm = "NotAlike")), V.bl (decide (nm = "Rests")), V.bl (decide (nm = "BrokenFact"))]) ++ [V.bl (decide (nm = "NothingToUndo"))]))) f5 = some (.lst (([V.bl (decide (nm = "BadTables")), V.bl (decide (nm = "BadFact")), V.bl (decide (nm = "BadProgram")), V.bl (decide (nm = "OtherTables"))] ++ [V.bl (decide (nm = "NoLine")), V.bl (decide (nm = "NoKey")), V.bl (decide (nm = "NoName")), V.bl (decide (nm = "BadName"))] ++ [V.bl (decide (nm = "Taken")), V.bl (decide (nm = "NotAlike")), V.bl (decide (nm = "Rests")), V.bl (decide (nm = "BrokenFact"))]) ++ [V.bl (decide (nm = "NothingToUndo"))])) := upd_same
    have he6 : IsEx (upd H5 f5 (.lst (([V.bl (decide (nm = "BadTables")), V.bl (decide (nm = "BadFact")), V.bl (decide (nm = "BadProgram")), V.bl (decide (nm = "OtherTables"))] ++ [V.bl (decide (nm = "NoLine")), V.bl (decide (nm = "NoKey")), V.bl (decide (nm = "NoName")), V.bl (decide (nm = "BadName"))] ++ [V.bl (decide (nm = "Taken")), V.bl (decide (nm = "NotAlike")), V.bl (decide (nm = "Rests")), V.bl (decide (nm = "BrokenFact"))]) ++ [V.bl (decide (nm = "NothingToUndo"))]))) a x.C := by
      exact he.off e5
    generalize upd H5 f5 (.lst (([V.bl (decide (nm = "BadTables")), V.bl (decide (nm = "BadFact")), V.bl (decide (nm = "BadProgram")), V.bl (decide (nm = "OtherTables"))] ++ [V.bl (decide (nm = "NoLine")), V.bl (decide (nm = "NoKey")), V.bl (decide (nm = "NoName")), V.bl (decide (nm = "BadName"))] ++ [V.bl (decide (nm = "Taken")), V.bl (decide (nm = "NotAlike")), V.bl (decide (nm = "Rests")), V.bl (decide (nm = "BrokenFact"))]) ++ [V.bl (decide (nm = "NothingToUndo"))])) = H6 at s6 e6 he6
    refine ⟨fun σ H' => σ = [some (.ref a), some (.ref f5), none] ∧ H' = H6, ?_, ?_⟩
    · refine ⟨_, rfl, a, x.C, _, _, _, rfl, .own _, he6, x.exc, hle, _, rfl, ?_⟩
      refine iteF ⟨_, rfl, a, x.C, _, _, _, rfl, .ty _, he6, x.exc, x.kitV, _, rfl, iteF ⟨rfl, rfl⟩⟩
    · rintro σ H' ⟨rfl, rfl⟩
      refine ⟨13, rfl, by decide, by decide, fun D hD => ?_⟩
      refine lc_range (lo := 0) (n := 13) (fun i Hc => Same H' Hc ∧ Hc D = some (.lst (((List.range i).filter fun k => decide (CLS[k]? = some nm)).map fun k : Nat => V.int (k : Int)))) ?_ ?_ ?_
      · exact ⟨Same.new (Same.refl _) hD, upd_same⟩
      · rintro i Hc hi ⟨hs, ec⟩
        have hx : (([V.bl (decide (nm = "BadTables")), V.bl (decide (nm = "BadFact")), V.bl (decide (nm = "BadProgram")), V.bl (decide (nm = "OtherTables"))] ++ [V.bl (decide (nm = "NoLine")), V.bl (decide (nm = "NoKey")), V.bl (decide (nm = "NoName")), V.bl (decide (nm = "BadName"))] ++ [V.bl (decide (nm = "Taken")), V.bl (decide (nm = "NotAlike")), V.bl (decide (nm = "Rests")), V.bl (decide (nm = "BrokenFact"))]) ++ [V.bl (decide (nm = "NothingToUndo"))])[i]? = some (V.bl (decide (CLS[i]? = some nm))) := by
          have hh : ∀ c : Str, decide (nm = c) = decide ((some c : Option Str) = some nm) := fun c => by
            by_cases z : nm = c
            · subst z
              simp
            · have z2 : ¬ (some c : Option Str) = some nm := fun q => z (Option.some.inj q).symm
              rw [decide_eq_false z, decide_eq_false z2]
          simp only [hh]
          match i, hi with
          | 0, _ => rfl
          | 1, _ => rfl
          | 2, _ => rfl
          | 3, _ => rfl
          | 4, _ => rfl
          | 5, _ => rfl
          | 6, _ => rfl
          | 7, _ => rfl
          | 8, _ => rfl
          | 9, _ => rfl
          | 10, _ => rfl
          | 11, _ => rfl
          | 12, _ => rfl
        refine ⟨rfl, _, rfl, _, rfl, f5, _, _, _, rfl, rfl, SqL.of (hs _ _ e6), at_of (j := i) (by omega) hx, _, rfl, ?_⟩
        refine ite2 (fun hb => ?_) (fun hb => ?_)
        · refine ⟨_, rfl, _, ec, small1000 (by
            rw [List.length_map]
            have z := List.length_filter_le (fun k => decide (CLS[k]? = some nm)) (List.range i)
            rw [List.length_range] at z
            omega), Same.own hs hD, ?_⟩
          rw [upd_same, List.range_succ, List.filter_append, List.map_append]
          have z : List.filter (fun k => decide (CLS[k]? = some nm)) [i] = [i] := by
            rw [List.filter_cons, if_pos hb]
            rfl
          rw [z]
          simp
        · refine ⟨hs, ?_⟩
          rw [ec, List.range_succ, List.filter_append]
          have z : List.filter (fun k => decide (CLS[k]? = some nm)) [i] = [] := by
            rw [List.filter_cons, if_neg hb]
            rfl
          rw [z, List.append_nil]
      · rintro Hc ⟨hs, ec⟩
        exact k D Hc (Same.free s6 hD) (s6.trans hs) ec
end
end L2.Pf
set_option maxHeartbeats 4000000
namespace L2.Pf
open PySem PySem.Spec PyProof.Rows L2.Ev
section
variable {P : Program} {w : World} {K : PySem.W.Frag} {mg : Str → Option Value} {base : Heap}
theorem dp_ints {K : PySem.W.Frag} {H : Hp} : ∀ js : List Int, DpAll K H (js.map V.int) (js.map PyData.int)
  | [] => .nil
  | j :: js => .cons (.int j) (dp_ints js)
theorem notin_true (n : Nat) : (!inV (.bl false) (List.replicate n (V.bl true))) = true := by
  induction n with
  | zero => rfl
  | succ n ih =>
    rw [List.replicate_succ]
    unfold inV
    rw [List.any_cons]
    exact ih
theorem flat_true (n : Nat) : (List.replicate n (V.bl true)).all flatV = true := by
  rw [List.all_eq_true]
  intro x hx
  rw [List.eq_of_mem_replicate hx]
  rfl
def sp_part : Sp := fun vs H Q _ => ∃ (p c : Addr) (ns : List Int) (n : Nat), vs = [.ref p] ∧ Pen H p c ns n ∧ n ≤ 2 ^ 48 ∧ ∀ H', Pen H' p c ns (n + 1000) → Q (.bl true) H'
theorem idx_BadFact : idx "BadFact" = [1].map V.int := by decide +kernel
theorem idx_BadProgram : idx "BadProgram" = [2].map V.int := by decide +kernel
theorem idx_NoLine : idx "NoLine" = [4].map V.int := by decide +kernel
theorem idx_NoKey : idx "NoKey" = [5].map V.int := by decide +kernel
theorem ok_numbered (T : TX K mg) : FnOk P w K mg base CX0 3 T.a_numbered T.fd_numbered p_numbered sp_part := by
  refine T.F_numbered.ok sc_numbered (fun vs H Q E h => ?_) (fun cdv A outer s H vs Q E hr h => ?_)
  · obtain ⟨p, c, ns, n, rfl, _⟩ := h
    rfl
  · obtain ⟨p, c, ns, n, rfl, hp, hn, k⟩ := h
    refine ⟨_, (pss_cons (ps_par (i := 1) (j := 2) (by rfl) sc_numbered.nd rfl rfl (by decide) rfl rfl (pa_cons (pe_call (ok_draw T) (hr.mono (by decide)) rfl T.g_draw T.F_draw.kp T.b_draw .nil pass0 (pa_cons (pv 0) (pa_cons (pe_op op_pow pe_int pe_int) pa_nil))) (pa_cons (pe_op op_sub (pe_un un_neg pe_int) (pe_call (ok_draw T) (hr.mono (by decide)) rfl T.g_draw T.F_draw.kp T.b_draw .nil pass0 (pa_cons (pv 0) (pa_cons (pe_op op_pow pe_int pe_int) pa_nil)))) pa_nil)) (by rfl))
  (pss_cons (ps_par (i := 3) (j := 4) (by rfl) sc_numbered.nd rfl rfl (by decide) rfl rfl (pa_cons (pe_lstS (pa_cons (pe_mk1 T.x_BadFact.oex T.i_BadFact_init T.t_BadFact_init (ok_BadFact_init T) (hr.mono (by decide)) T.b_BadFact_init rfl T.x_BadFact.g (pv 1)) (pa_cons (pe_mk1 T.x_BadFact.oex T.i_BadFact_init T.t_BadFact_init (ok_BadFact_init T) (hr.mono (by decide)) T.b_BadFact_init rfl T.x_BadFact.g (pv 2)) pa_nil))) (pa_cons (pe_lstS (pa_cons (pe_mk1 T.x_BadProgram.oex T.i_BadProgram_init T.t_BadProgram_init (ok_BadProgram_init T) (hr.mono (by decide)) T.b_BadProgram_init rfl T.x_BadProgram.g (pv 1)) (pa_cons (pe_mk1 T.x_BadProgram.oex T.i_BadProgram_init T.t_BadProgram_init (ok_BadProgram_init T) (hr.mono (by decide)) T.b_BadProgram_init rfl T.x_BadProgram.g (pv 2)) pa_nil))) pa_nil)) (by rfl))
  (pss_cons (ps_par (i := 5) (j := 6) (by rfl) sc_numbered.nd rfl rfl (by decide) rfl rfl (pa_cons (pe_lstS (pa_cons (pe_mk1 T.x_NoLine.oex T.i_NoLine_init T.t_NoLine_init (ok_NoLine_init T) (hr.mono (by decide)) T.b_NoLine_init rfl T.x_NoLine.g (pv 1)) (pa_cons (pe_mk1 T.x_NoLine.oex T.i_NoLine_init T.t_NoLine_init (ok_NoLine_init T) (hr.mono (by decide)) T.b_NoLine_init rfl T.x_NoLine.g (pv 2)) pa_nil))) (pa_cons (pe_lstS (pa_cons (pe_mk1 T.x_NoKey.oex T.i_NoKey_init T.t_NoKey_init (ok_NoKey_init T) (hr.mono (by decide)) T.b_NoKey_init rfl T.x_NoKey.g (pv 1)) (pa_cons (pe_mk1 T.x_NoKey.oex T.i_NoKey_init T.t_NoKey_init (ok_NoKey_init T) (hr.mono (by decide)) T.b_NoKey_init rfl T.x_NoKey.g (pv 2)) pa_nil))) pa_nil)) (by rfl))
  (pss_cons (ps_set (i := 7) sc_numbered.nd rfl (Or.inl rfl) (pe_lstS pa_nil))
  (pss_cons (ps_for PassesOwn.never rfl (pi_range1 (by rfl) T.z_range (pa_cons pe_int pa_nil)) (pg_name (i := 8) sc_numbered.nd rfl (Or.inl rfl)) (pss_cons (ps_set (i := 9) sc_numbered.nd rfl (Or.inl rfl) (pe_ix ix_list (pe_lstS (pa_cons (pv 1) (pa_cons (pv 2) pa_nil))) (pv 8) (fun _ _ => rfl)))
  (pss_cons (ps_set (i := 7) sc_numbered.nd rfl (Or.inl rfl) (pe_op op_catS (pv 7) (pe_lstS (pa_cons (pe_and (pe_cmpR op_eq (pe_xv (pe_ix ix_list (pv 3) (pv 8) (fun _ _ => rfl))) (pv 9) (nomark _)) (pe_one (pe_cmpR (op_eqD hr.units) (pe_call (ok_classes T) (hr.mono (by decide)) rfl T.g_classes T.F_classes.kp T.b_classes .nil pass0 (pa_cons (pe_ix ix_list (pv 3) (pv 8) (fun _ _ => rfl)) pa_nil)) (pe_lstS (pa_cons pe_int pa_nil)) (nomark _)))) pa_nil))))
  (pss_cons (ps_set (i := 7) sc_numbered.nd rfl (Or.inl rfl) (pe_op op_catS (pv 7) (pe_lstS (pa_cons (pe_and (pe_cmpR op_eq (pe_xv (pe_ix ix_list (pv 4) (pv 8) (fun _ _ => rfl))) (pv 9) (nomark _)) (pe_one (pe_cmpR (op_eqD hr.units) (pe_call (ok_classes T) (hr.mono (by decide)) rfl T.g_classes T.F_classes.kp T.b_classes .nil pass0 (pa_cons (pe_ix ix_list (pv 4) (pv 8) (fun _ _ => rfl)) pa_nil)) (pe_lstS (pa_cons pe_int pa_nil)) (nomark _)))) pa_nil))))
  (pss_cons (ps_set (i := 7) sc_numbered.nd rfl (Or.inl rfl) (pe_op op_catS (pv 7) (pe_lstS (pa_cons (pe_and (pe_cmpR op_eq (pe_xv (pe_ix ix_list (pv 5) (pv 8) (fun _ _ => rfl))) (pv 9) (nomark _)) (pe_one (pe_cmpR (op_eqD hr.units) (pe_call (ok_classes T) (hr.mono (by decide)) rfl T.g_classes T.F_classes.kp T.b_classes .nil pass0 (pa_cons (pe_ix ix_list (pv 5) (pv 8) (fun _ _ => rfl)) pa_nil)) (pe_lstS (pa_cons pe_int pa_nil)) (nomark _)))) pa_nil))))
  (pss_one (ps_set (i := 7) sc_numbered.nd rfl (Or.inl rfl) (pe_op op_catS (pv 7) (pe_lstS (pa_cons (pe_and (pe_cmpR op_eq (pe_xv (pe_ix ix_list (pv 6) (pv 8) (fun _ _ => rfl))) (pv 9) (nomark _)) (pe_one (pe_cmpR (op_eqD hr.units) (pe_call (ok_classes T) (hr.mono (by decide)) rfl T.g_classes T.F_classes.kp T.b_classes .nil pass0 (pa_cons (pe_ix ix_list (pv 6) (pv 8) (fun _ _ => rfl)) pa_nil)) (pe_lstS (pa_cons pe_int pa_nil)) (nomark _)))) pa_nil))))))))))
  (pss_one (ps_ret (pe_cmpR op_notIn_seq pe_bl (pv 7) (by rfl))))))))), ?_⟩
    refine ⟨_, rfl, _, _, rfl, rfl, ⟨by decide, by decide, by decide⟩, p, c, ns, n, _, rfl, hp, by omega, by decide, Nat.lt_of_lt_of_le (by decide : _ < 2 ^ 200) (Nat.pow_le_pow_right (by decide) (by decide)), fun one H1 _ _ hp1 hb1 => ?_⟩
    refine ⟨_, rfl, _, rfl, _, _, rfl, rfl, ⟨by decide, by decide, by decide⟩, p, c, ns, n + 1, _, rfl, hp1, by omega, by decide, ok_small (by decide), fun tw H2 _ _ hp2 hb2 => ?_⟩
    refine ⟨_, _, rfl, rfl, _, _, rfl, ?_⟩
    have htwo : ∃ two : Int, -1 - tw = two := ⟨_, rfl⟩
    obtain ⟨two, e2⟩ := htwo
    clear hb1 hb2 hp hp1
    refine ⟨_, rfl, fun aBadFact0 H3 _ s3 EBadFact0 => ?_⟩
    refine ⟨_, rfl, fun aBadFact1 H4 _ s4 EBadFact1 => ?_⟩
    replace EBadFact1 : ErrAt H4 aBadFact1 T.x_BadFact.C [("index", .int two)] := e2 ▸ EBadFact1
    refine ⟨(by show 2 ≤ sizeLine; decide), fun lBadFact H5 _ s5 LBadFact => ?_⟩
    refine ⟨_, rfl, fun aBadProgram0 H6 _ s6 EBadProgram0 => ?_⟩
    refine ⟨_, rfl, fun aBadProgram1 H7 _ s7 EBadProgram1 => ?_⟩
    replace EBadProgram1 : ErrAt H7 aBadProgram1 T.x_BadProgram.C [("line", .int two)] := e2 ▸ EBadProgram1
    refine ⟨(by show 2 ≤ sizeLine; decide), fun lBadProgram H8 _ s8 LBadProgram => ?_⟩
    refine ⟨_, _, rfl, ?_⟩
    refine ⟨_, rfl, fun aNoLine0 H9 _ s9 ENoLine0 => ?_⟩
    refine ⟨_, rfl, fun aNoLine1 H10 _ s10 ENoLine1 => ?_⟩
    replace ENoLine1 : ErrAt H10 aNoLine1 T.x_NoLine.C [("line", .int two)] := e2 ▸ ENoLine1
    refine ⟨(by show 2 ≤ sizeLine; decide), fun lNoLine H11 _ s11 LNoLine => ?_⟩
    refine ⟨_, rfl, fun aNoKey0 H12 _ s12 ENoKey0 => ?_⟩
    refine ⟨_, rfl, fun aNoKey1 H13 _ s13 ENoKey1 => ?_⟩
    replace ENoKey1 : ErrAt H13 aNoKey1 T.x_NoKey.C [("line", .int two)] := e2 ▸ ENoKey1
    refine ⟨(by show 2 ≤ sizeLine; decide), fun lNoKey H14 _ s14 LNoKey => ?_⟩
    refine ⟨_, _, rfl, ?_⟩
    refine ⟨Nat.zero_le _, fun ff H15 _ s15 LF => ?_⟩
    replace EBadFact0 := EBadFact0.same ((((((((((((s4).trans s5).trans s6).trans s7).trans s8).trans s9).trans s10).trans s11).trans s12).trans s13).trans s14).trans s15)
    replace EBadFact1 := EBadFact1.same (((((((((((s5).trans s6).trans s7).trans s8).trans s9).trans s10).trans s11).trans s12).trans s13).trans s14).trans s15)
    replace LBadFact := ((((((((((s6).trans s7).trans s8).trans s9).trans s10).trans s11).trans s12).trans s13).trans s14).trans s15) _ _ LBadFact
    replace EBadProgram0 := EBadProgram0.same (((((((((s7).trans s8).trans s9).trans s10).trans s11).trans s12).trans s13).trans s14).trans s15)
    replace EBadProgram1 := EBadProgram1.same ((((((((s8).trans s9).trans s10).trans s11).trans s12).trans s13).trans s14).trans s15)
    replace LBadProgram := (((((((s9).trans s10).trans s11).trans s12).trans s13).trans s14).trans s15) _ _ LBadProgram
    replace ENoLine0 := ENoLine0.same ((((((s10).trans s11).trans s12).trans s13).trans s14).trans s15)
    replace ENoLine1 := ENoLine1.same (((((s11).trans s12).trans s13).trans s14).trans s15)
    replace LNoLine := ((((s12).trans s13).trans s14).trans s15) _ _ LNoLine
    replace ENoKey0 := ENoKey0.same (((s13).trans s14).trans s15)
    replace ENoKey1 := ENoKey1.same ((s14).trans s15)
    replace LNoKey := (s15) _ _ LNoKey
    have hpB := hp2.same (((((((((((((s3).trans s4).trans s5).trans s6).trans s7).trans s8).trans s9).trans s10).trans s11).trans s12).trans s13).trans s14).trans s15)
    clear hp2 s3 s4 s5 s6 s7 s8 s9 s10 s11 s12 s13 s14 s15
    generalize H15 = B at *
    refine ⟨2, rfl, by decide, by decide, for_range (lo := 0) (n := 2) (fun i σ H' => Same B H' ∧ ∃ (ff : Addr) (u1 u2 : Option V), σ = [some (.ref p), some (.int one), some (.int two), some (.ref lBadFact), some (.ref lBadProgram), some (.ref lNoLine), some (.ref lNoKey), some (.ref ff), u1, u2] ∧
      H' ff = some (.lst (List.replicate (4 * i) (.bl true)))) ⟨Same.refl B, ff, _, _, (by rw [← e2]; rfl), LF⟩ ?_ ?_⟩
    · rintro i σ H' hi ⟨hs, ff, u1, u2, rfl, hff⟩
      obtain ⟨z, x1, x2, x3, x4, hz, g1, g2, g3, g4, q1, q2, q3, q4⟩ : ∃ (z : Int) (x1 x2 x3 x4 : Addr), atI [V.int one, V.int two] (0 + (i : Int)) = some (.int z) ∧
          atI [V.ref aBadFact0, V.ref aBadFact1] (0 + (i : Int)) = some (.ref x1) ∧ atI [V.ref aBadProgram0, V.ref aBadProgram1] (0 + (i : Int)) = some (.ref x2) ∧ atI [V.ref aNoLine0, V.ref aNoLine1] (0 + (i : Int)) = some (.ref x3) ∧ atI [V.ref aNoKey0, V.ref aNoKey1] (0 + (i : Int)) = some (.ref x4) ∧
          ErrAt B x1 T.x_BadFact.C [("index", .int z)] ∧ ErrAt B x2 T.x_BadProgram.C [("line", .int z)] ∧ ErrAt B x3 T.x_NoLine.C [("line", .int z)] ∧ ErrAt B x4 T.x_NoKey.C [("line", .int z)] := by
        have hh : i = 0 ∨ i = 1 := by omega
        rcases hh with rfl | rfl
        · exact ⟨one, aBadFact0, aBadProgram0, aNoLine0, aNoKey0, rfl, rfl, rfl, rfl, rfl, EBadFact0, EBadProgram0, ENoLine0, ENoKey0⟩
        · exact ⟨two, aBadFact1, aBadProgram1, aNoLine1, aNoKey1, rfl, rfl, rfl, rfl, rfl, EBadFact1, EBadProgram1, ENoLine1, ENoKey1⟩
      refine ⟨_, rfl, _, rfl, (by show 2 ≤ sizeLine; decide), fun l K0 _ t0 L0 => ?_⟩
      refine ⟨_, rfl, l, _, _, _, rfl, rfl, SqL.of L0, hz, ?_⟩
      replace hs := hs.trans t0
      replace hff := t0 _ _ hff
      clear t0 L0
      obtain ⟨dx, w1, w2⟩ := q1.same hs
      refine ⟨_, rfl, _, rfl, _, rfl, lBadFact, _, _, _, rfl, rfl, SqL.of (hs _ _ LBadFact), g1, x1, T.x_BadFact.C, dx, _, _, rfl, w1, w2, T.x_BadFact.xfc, T.f_BadFact_init_index, lookup1 _ _, ?_⟩
      refine ⟨_, rfl, rfl, _, rfl, ?_⟩
      rw [decide_eq_true (rfl : V.int z = V.int z)]
      refine iteT ?_
      refine ⟨_, rfl, _, rfl, lBadFact, _, _, _, rfl, rfl, SqL.of (hs _ _ LBadFact), g1, x1, _, _, T.x_BadFact, rfl, (q1.same hs).is, .inl rfl, fun r K1 _ t1 er1 => ?_⟩
      rw [idx_BadFact] at er1
      refine ⟨(by show 1 ≤ sizeLine; decide), fun r2 K2 _ t2 er2 => ?_⟩
      refine ⟨_, _, .lst (SqL.of (t2 _ _ er1)) (dp_ints [1]), .lst (SqL.of er2) (dp_ints [1]), by decide +kernel, by decide +kernel, ?_⟩
      rw [show PyData.eqv (.list ([1].map PyData.int)) (.list ([1].map PyData.int)) = true from by decide +kernel]
      refine ⟨(by show 1 ≤ sizeLine; decide), fun r3 K3 _ t3 er3 => ?_⟩
      have sK : Same K0 K3 := (t1.trans t2).trans t3
      refine ⟨ff, r3, _, _, rfl, rfl, sK _ _ hff, er3, by rw [List.length_replicate]; exact Nat.le_trans (show 4 * i + 0 + 1 ≤ 100 by omega) (by decide), fun g0g K4 _ t4 er4 => ?_⟩
      replace hs := hs.trans (sK.trans t4)
      replace hff : K4 g0g = some (.lst (List.replicate (4 * i + 1) (.bl true))) := by rw [er4, ← List.replicate_succ']
      clear sK t1 t2 t3 t4 er1 er2 er3 er4 w1 w2 dx
      obtain ⟨dx, w1, w2⟩ := q2.same hs
      refine ⟨_, rfl, _, rfl, _, rfl, lBadProgram, _, _, _, rfl, rfl, SqL.of (hs _ _ LBadProgram), g2, x2, T.x_BadProgram.C, dx, _, _, rfl, w1, w2, T.x_BadProgram.xfc, T.f_BadProgram_init_line, lookup1 _ _, ?_⟩
      refine ⟨_, rfl, rfl, _, rfl, ?_⟩
      rw [decide_eq_true (rfl : V.int z = V.int z)]
      refine iteT ?_
      refine ⟨_, rfl, _, rfl, lBadProgram, _, _, _, rfl, rfl, SqL.of (hs _ _ LBadProgram), g2, x2, _, _, T.x_BadProgram, rfl, (q2.same hs).is, .inl rfl, fun r K5 _ t1 er1 => ?_⟩
      rw [idx_BadProgram] at er1
      refine ⟨(by show 1 ≤ sizeLine; decide), fun r2 K6 _ t2 er2 => ?_⟩
      refine ⟨_, _, .lst (SqL.of (t2 _ _ er1)) (dp_ints [2]), .lst (SqL.of er2) (dp_ints [2]), by decide +kernel, by decide +kernel, ?_⟩
      rw [show PyData.eqv (.list ([2].map PyData.int)) (.list ([2].map PyData.int)) = true from by decide +kernel]
      refine ⟨(by show 1 ≤ sizeLine; decide), fun r3 K7 _ t3 er3 => ?_⟩
      have sK : Same K4 K7 := (t1.trans t2).trans t3
      refine ⟨g0g, r3, _, _, rfl, rfl, sK _ _ hff, er3, by rw [List.length_replicate]; exact Nat.le_trans (show 4 * i + 1 + 1 ≤ 100 by omega) (by decide), fun g1g K8 _ t4 er4 => ?_⟩
      replace hs := hs.trans (sK.trans t4)
      replace hff : K8 g1g = some (.lst (List.replicate (4 * i + 2) (.bl true))) := by rw [er4, ← List.replicate_succ']
      clear sK t1 t2 t3 t4 er1 er2 er3 er4 w1 w2 dx
      obtain ⟨dx, w1, w2⟩ := q3.same hs
      refine ⟨_, rfl, _, rfl, _, rfl, lNoLine, _, _, _, rfl, rfl, SqL.of (hs _ _ LNoLine), g3, x3, T.x_NoLine.C, dx, _, _, rfl, w1, w2, T.x_NoLine.xfc, T.f_NoLine_init_line, lookup1 _ _, ?_⟩
      refine ⟨_, rfl, rfl, _, rfl, ?_⟩
      rw [decide_eq_true (rfl : V.int z = V.int z)]
      refine iteT ?_
      refine ⟨_, rfl, _, rfl, lNoLine, _, _, _, rfl, rfl, SqL.of (hs _ _ LNoLine), g3, x3, _, _, T.x_NoLine, rfl, (q3.same hs).is, .inl rfl, fun r K9 _ t1 er1 => ?_⟩
      rw [idx_NoLine] at er1
      refine ⟨(by show 1 ≤ sizeLine; decide), fun r2 K10 _ t2 er2 => ?_⟩
      refine ⟨_, _, .lst (SqL.of (t2 _ _ er1)) (dp_ints [4]), .lst (SqL.of er2) (dp_ints [4]), by decide +kernel, by decide +kernel, ?_⟩
      rw [show PyData.eqv (.list ([4].map PyData.int)) (.list ([4].map PyData.int)) = true from by decide +kernel]
      refine ⟨(by show 1 ≤ sizeLine; decide), fun r3 K11 _ t3 er3 => ?_⟩
      have sK : Same K8 K11 := (t1.trans t2).trans t3
      refine ⟨g1g, r3, _, _, rfl, rfl, sK _ _ hff, er3, by rw [List.length_replicate]; exact Nat.le_trans (show 4 * i + 2 + 1 ≤ 100 by omega) (by decide), fun g2g K12 _ t4 er4 => ?_⟩
      replace hs := hs.trans (sK.trans t4)
      replace hff : K12 g2g = some (.lst (List.replicate (4 * i + 3) (.bl true))) := by rw [er4, ← List.replicate_succ']
      clear sK t1 t2 t3 t4 er1 er2 er3 er4 w1 w2 dx
      obtain ⟨dx, w1, w2⟩ := q4.same hs
      refine ⟨_, rfl, _, rfl, _, rfl, lNoKey, _, _, _, rfl, rfl, SqL.of (hs _ _ LNoKey), g4, x4, T.x_NoKey.C, dx, _, _, rfl, w1, w2, T.x_NoKey.xfc, T.f_NoKey_init_line, lookup1 _ _, ?_⟩
      refine ⟨_, rfl, rfl, _, rfl, ?_⟩
      rw [decide_eq_true (rfl : V.int z = V.int z)]
      refine iteT ?_
      refine ⟨_, rfl, _, rfl, lNoKey, _, _, _, rfl, rfl, SqL.of (hs _ _ LNoKey), g4, x4, _, _, T.x_NoKey, rfl, (q4.same hs).is, .inl rfl, fun r K13 _ t1 er1 => ?_⟩
      rw [idx_NoKey] at er1
      refine ⟨(by show 1 ≤ sizeLine; decide), fun r2 K14 _ t2 er2 => ?_⟩
      refine ⟨_, _, .lst (SqL.of (t2 _ _ er1)) (dp_ints [5]), .lst (SqL.of er2) (dp_ints [5]), by decide +kernel, by decide +kernel, ?_⟩
      rw [show PyData.eqv (.list ([5].map PyData.int)) (.list ([5].map PyData.int)) = true from by decide +kernel]
      refine ⟨(by show 1 ≤ sizeLine; decide), fun r3 K15 _ t3 er3 => ?_⟩
      have sK : Same K12 K15 := (t1.trans t2).trans t3
      refine ⟨g2g, r3, _, _, rfl, rfl, sK _ _ hff, er3, by rw [List.length_replicate]; exact Nat.le_trans (show 4 * i + 3 + 1 ≤ 100 by omega) (by decide), fun g3g K16 _ t4 er4 => ?_⟩
      replace hs := hs.trans (sK.trans t4)
      replace hff : K16 g3g = some (.lst (List.replicate (4 * i + 4) (.bl true))) := by rw [er4, ← List.replicate_succ']
      clear sK t1 t2 t3 t4 er1 er2 er3 er4 w1 w2 dx
      exact ⟨hs, g3g, _, _, rfl, hff⟩
    · rintro σ H' ⟨hs, ff, u1, u2, rfl, hff⟩
      refine ⟨_, rfl, ff, _, rfl, .inl (SqL.of hff), rfl, flat_true _, ?_⟩
      show Q (.bl (!inV (.bl false) (List.replicate (4 * 2) (V.bl true)))) H'
      rw [notin_true]
      exact k H' ((hpB.same hs).mono (by omega))
end
end L2.Pf

set_option maxHeartbeats 4000000
namespace L2.Pf
open PySem PySem.Spec PyProof.Rows L2.Ev
local macro_rules | `(tactic| walk_at "in") => `(tactic| repeat (with_reducible first | refine in_name ?_ | refine in_seq ?_ | refine in_par ?_ | refine in_cons ?_ | refine in_nil ?_ | refine in_asg ?_ | refine in_ret ?_ | refine in_drop ?_ | refine in_next ?_))
section
variable {P : Program} {w : World} {K : PySem.W.Frag} {mg : Str → Option Value} {base : Heap}
theorem idx_BadTables : idx "BadTables" = [0].map V.int := by decide +kernel
theorem idx_NoName : idx "NoName" = [6].map V.int := by decide +kernel
theorem idx_BadName : idx "BadName" = [7].map V.int := by decide +kernel
theorem idx_Taken : idx "Taken" = [8].map V.int := by decide +kernel
theorem idx_BrokenFact : idx "BrokenFact" = [11].map V.int := by decide +kernel
theorem ok_texted (T : TX K mg) : FnOk P w K mg base CX0 3 T.a_texted T.fd_texted p_texted sp_part := by
  refine T.F_texted.ok sc_texted (fun vs H Q E h => ?_) (fun cdv A outer s H vs Q E hr h => ?_)
  · obtain ⟨p, c, ns, n, rfl, _⟩ := h
    rfl
  · obtain ⟨p, c, ns, n, rfl, hp, hn, k⟩ := h
    refine ⟨_, (pss_cons (ps_set (i := 1) sc_texted.nd rfl (Or.inl rfl) (pe_slice (sl_listS (K := K)) (pe_call (ok_shuffled T) (hr.mono (by decide)) rfl T.g_shuffled T.F_shuffled.kp T.b_shuffled .nil pass0 (pa_cons (pv 0) (pa_cons (pe_lstS (pa_cons pe_str (pa_cons pe_str (pa_cons pe_str (pa_cons pe_str (pa_cons pe_str pa_nil)))))) pa_nil))) po_none (po_some pe_int)))
  (pss_cons (ps_par (i := 2) (j := 3) (by rfl) sc_texted.nd rfl rfl (by decide) rfl rfl (pa_cons (pe_lc (own := [("_law_text", 4)]) (g := gName 4) (tt := tYes) rfl sc_texted.nd (pi_list (pv 1)) (blkOk_by (own := [("_law_text", 4)]) (N := n_texted) (sc := defScope s_texted) (by decide +kernel)) (fun _ _ _ _ _ => (pg_name (i := 4) sc_texted.nd rfl (Or.inl rfl))) (fun _ _ _ _ _ => pts_nil) (fun _ _ _ _ _ => (pe_mk1 T.x_BadTables.oex T.i_BadTables_init T.t_BadTables_init (ok_BadTables_init T) (hr.mono (by decide)) T.b_BadTables_init rfl T.x_BadTables.g (pv 4)))) (pa_cons (pe_lc (own := [("_law_text", 4)]) (g := gName 4) (tt := tYes) rfl sc_texted.nd (pi_list (pv 1)) (blkOk_by (own := [("_law_text", 4)]) (N := n_texted) (sc := defScope s_texted) (by decide +kernel)) (fun _ _ _ _ _ => (pg_name (i := 4) sc_texted.nd rfl (Or.inl rfl))) (fun _ _ _ _ _ => pts_nil) (fun _ _ _ _ _ => (pe_mk1 T.x_NoName.oex T.i_NoName_init T.t_NoName_init (ok_NoName_init T) (hr.mono (by decide)) T.b_NoName_init rfl T.x_NoName.g (pv 4)))) pa_nil)) (by rfl))
  (pss_cons (ps_par (i := 5) (j := 6) (by rfl) sc_texted.nd rfl rfl (by decide) rfl rfl (pa_cons (pe_lc (own := [("_law_text", 4)]) (g := gName 4) (tt := tYes) rfl sc_texted.nd (pi_list (pv 1)) (blkOk_by (own := [("_law_text", 4)]) (N := n_texted) (sc := defScope s_texted) (by decide +kernel)) (fun _ _ _ _ _ => (pg_name (i := 4) sc_texted.nd rfl (Or.inl rfl))) (fun _ _ _ _ _ => pts_nil) (fun _ _ _ _ _ => (pe_mk1 T.x_BadName.oex T.i_BadName_init T.t_BadName_init (ok_BadName_init T) (hr.mono (by decide)) T.b_BadName_init rfl T.x_BadName.g (pv 4)))) (pa_cons (pe_lc (own := [("_law_text", 4)]) (g := gName 4) (tt := tYes) rfl sc_texted.nd (pi_list (pv 1)) (blkOk_by (own := [("_law_text", 4)]) (N := n_texted) (sc := defScope s_texted) (by decide +kernel)) (fun _ _ _ _ _ => (pg_name (i := 4) sc_texted.nd rfl (Or.inl rfl))) (fun _ _ _ _ _ => pts_nil) (fun _ _ _ _ _ => (pe_mk1 T.x_Taken.oex T.i_Taken_init T.t_Taken_init (ok_Taken_init T) (hr.mono (by decide)) T.b_Taken_init rfl T.x_Taken.g (pv 4)))) pa_nil)) (by rfl))
  (pss_cons (ps_par (i := 7) (j := 8) (by rfl) sc_texted.nd rfl rfl (by decide) rfl rfl (pa_cons (pe_lc (own := [("_law_text", 4)]) (g := gName 4) (tt := tYes) rfl sc_texted.nd (pi_list (pv 1)) (blkOk_by (own := [("_law_text", 4)]) (N := n_texted) (sc := defScope s_texted) (by decide +kernel)) (fun _ _ _ _ _ => (pg_name (i := 4) sc_texted.nd rfl (Or.inl rfl))) (fun _ _ _ _ _ => pts_nil) (fun _ _ _ _ _ => (pe_mk1 T.x_BrokenFact.oex T.i_BrokenFact_init T.t_BrokenFact_init (ok_BrokenFact_init T) (hr.mono (by decide)) T.b_BrokenFact_init rfl T.x_BrokenFact.g (pv 4)))) (pa_cons (pe_lstS pa_nil) pa_nil)) (by rfl))
  (pss_cons (ps_for PassesOwn.never rfl (pi_range1 (by rfl) T.z_range (pa_cons pe_int pa_nil)) (pg_name (i := 9) sc_texted.nd rfl (Or.inl rfl)) (pss_cons (ps_expr (pe_bm PySem.F.plainAttrs_list PySem.F.slot_list_append PySem.F.type_list_append mt_appendS (pv 8) (pa_cons (pe_and (pe_cmpR op_eq (pe_xv (pe_ix ix_list (pv 2) (pv 9) (fun _ _ => rfl))) (pe_ix ix_list (pv 1) (pv 9) (fun _ _ => rfl)) (nomark _)) (pe_one (pe_cmpR (op_eqD hr.units) (pe_call (ok_classes T) (hr.mono (by decide)) rfl T.g_classes T.F_classes.kp T.b_classes .nil pass0 (pa_cons (pe_ix ix_list (pv 2) (pv 9) (fun _ _ => rfl)) pa_nil)) (pe_lstS (pa_cons pe_int pa_nil)) (nomark _)))) pa_nil)))
  (pss_cons (ps_expr (pe_bm PySem.F.plainAttrs_list PySem.F.slot_list_append PySem.F.type_list_append mt_appendS (pv 8) (pa_cons (pe_and (pe_cmpR op_eq (pe_xv (pe_ix ix_list (pv 3) (pv 9) (fun _ _ => rfl))) (pe_ix ix_list (pv 1) (pv 9) (fun _ _ => rfl)) (nomark _)) (pe_one (pe_cmpR (op_eqD hr.units) (pe_call (ok_classes T) (hr.mono (by decide)) rfl T.g_classes T.F_classes.kp T.b_classes .nil pass0 (pa_cons (pe_ix ix_list (pv 3) (pv 9) (fun _ _ => rfl)) pa_nil)) (pe_lstS (pa_cons pe_int pa_nil)) (nomark _)))) pa_nil)))
  (pss_cons (ps_expr (pe_bm PySem.F.plainAttrs_list PySem.F.slot_list_append PySem.F.type_list_append mt_appendS (pv 8) (pa_cons (pe_and (pe_cmpR op_eq (pe_xv (pe_ix ix_list (pv 5) (pv 9) (fun _ _ => rfl))) (pe_ix ix_list (pv 1) (pv 9) (fun _ _ => rfl)) (nomark _)) (pe_one (pe_cmpR (op_eqD hr.units) (pe_call (ok_classes T) (hr.mono (by decide)) rfl T.g_classes T.F_classes.kp T.b_classes .nil pass0 (pa_cons (pe_ix ix_list (pv 5) (pv 9) (fun _ _ => rfl)) pa_nil)) (pe_lstS (pa_cons pe_int pa_nil)) (nomark _)))) pa_nil)))
  (pss_cons (ps_expr (pe_bm PySem.F.plainAttrs_list PySem.F.slot_list_append PySem.F.type_list_append mt_appendS (pv 8) (pa_cons (pe_and (pe_cmpR op_eq (pe_xv (pe_ix ix_list (pv 6) (pv 9) (fun _ _ => rfl))) (pe_ix ix_list (pv 1) (pv 9) (fun _ _ => rfl)) (nomark _)) (pe_one (pe_cmpR (op_eqD hr.units) (pe_call (ok_classes T) (hr.mono (by decide)) rfl T.g_classes T.F_classes.kp T.b_classes .nil pass0 (pa_cons (pe_ix ix_list (pv 6) (pv 9) (fun _ _ => rfl)) pa_nil)) (pe_lstS (pa_cons pe_int pa_nil)) (nomark _)))) pa_nil)))
  (pss_one (ps_expr (pe_bm PySem.F.plainAttrs_list PySem.F.slot_list_append PySem.F.type_list_append mt_appendS (pv 8) (pa_cons (pe_and (pe_cmpR op_eq (pe_xv (pe_ix ix_list (pv 7) (pv 9) (fun _ _ => rfl))) (pe_ix ix_list (pv 1) (pv 9) (fun _ _ => rfl)) (nomark _)) (pe_one (pe_cmpR (op_eqD hr.units) (pe_call (ok_classes T) (hr.mono (by decide)) rfl T.g_classes T.F_classes.kp T.b_classes .nil pass0 (pa_cons (pe_ix ix_list (pv 7) (pv 9) (fun _ _ => rfl)) pa_nil)) (pe_lstS (pa_cons pe_int pa_nil)) (nomark _)))) pa_nil)))))))))
  (pss_one (ps_ret (pe_cmpR op_notIn_seq pe_bl (pv 8) (by rfl))))))))), ?_⟩
    refine ⟨_, rfl, (by show 5 ≤ sizeLine; decide), fun a H1 _ s1 L1 => ?_⟩
    refine ⟨p, c, ns, n, a, _, rfl, hp.same s1, .inl (SqL.of L1), (by show 5 ≤ 1000; decide), by omega, fun ys r H2 hys _ er hp2 _ => ?_⟩
    refine ⟨_, rfl, r, _, rfl, SqL.of er, fun lt H3 _ s3 L3 => ?_⟩
    rw [cut_to _ (z := 2) (k := 2) rfl (by decide)] at L3
    have hl2 : (ys.take 2).length = 2 := by
      rw [List.length_take, hys.length_eq]
      rfl
    have hstr : ∀ x ∈ ys.take 2, ∃ u : Str, x = .str u := fun x hx => by
      have z := hys.mem_iff.mp (List.mem_of_mem_take hx)
      simp only [List.mem_cons, List.not_mem_nil, or_false] at z
      rcases z with z | z | z | z | z <;> exact ⟨_, z⟩
    generalize ys.take 2 = xs at L3 hl2 hstr
    have hxl : xs.length < sizeLine := by rw [hl2]; decide
    replace hp2 := hp2.same s3
    clear s1 L1 hys er s3
    walk_at "in"
    refine lc_errs (i := 1) (j := 4) (xs := xs) (by exact rfl) (by show 4 < 10; decide) (L3) hxl (fun lBadTables H4 eBadTables _ s4 LBadTables NBadTables EBadTables => ?_)
    walk_at "in"
    refine lc_errs (i := 1) (j := 4) (xs := xs) (by exact rfl) (by show 4 < 10; decide) ((s4) _ _ L3) hxl (fun lNoName H5 eNoName _ s5 LNoName NNoName ENoName => ?_)
    refine ⟨_, _, rfl, ?_⟩
    walk_at "in"
    refine lc_errs (i := 1) (j := 4) (xs := xs) (by exact rfl) (by show 4 < 10; decide) (((s4).trans s5) _ _ L3) hxl (fun lBadName H6 eBadName _ s6 LBadName NBadName EBadName => ?_)
    walk_at "in"
    refine lc_errs (i := 1) (j := 4) (xs := xs) (by exact rfl) (by show 4 < 10; decide) ((((s4).trans s5).trans s6) _ _ L3) hxl (fun lTaken H7 eTaken _ s7 LTaken NTaken ETaken => ?_)
    refine ⟨_, _, rfl, ?_⟩
    walk_at "in"
    refine lc_errs (i := 1) (j := 4) (xs := xs) (by exact rfl) (by show 4 < 10; decide) (((((s4).trans s5).trans s6).trans s7) _ _ L3) hxl (fun lBrokenFact H8 eBrokenFact _ s8 LBrokenFact NBrokenFact EBrokenFact => ?_)
    refine ⟨Nat.zero_le _, fun ff HF nF sF LF => ⟨_, _, rfl, ?_⟩⟩
    replace L3 := (((((s4).trans s5).trans s6).trans s7).trans s8) _ _ L3
    replace hp2 := hp2.same (((((s4).trans s5).trans s6).trans s7).trans s8)
    replace LBadTables := ((((s5).trans s6).trans s7).trans s8) _ _ LBadTables
    replace EBadTables := fun n e x q1 q2 => (EBadTables n e x q1 q2).same ((((s5).trans s6).trans s7).trans s8)
    replace LNoName := (((s6).trans s7).trans s8) _ _ LNoName
    replace ENoName := fun n e x q1 q2 => (ENoName n e x q1 q2).same (((s6).trans s7).trans s8)
    replace LBadName := ((s7).trans s8) _ _ LBadName
    replace EBadName := fun n e x q1 q2 => (EBadName n e x q1 q2).same ((s7).trans s8)
    replace LTaken := (s8) _ _ LTaken
    replace ETaken := fun n e x q1 q2 => (ETaken n e x q1 q2).same (s8)
    clear s4 s5 s6 s7 s8
    generalize H8 = B at *
    refine ⟨2, rfl, by decide, by decide, for_range (lo := 0) (n := 2) (fun i σ H' => Same B H' ∧ ∃ (z y : Option V), σ = [some (.ref p), some (.ref lt), some (.ref lBadTables), some (.ref lNoName), z, some (.ref lBadName), some (.ref lTaken), some (.ref lBrokenFact), some (.ref ff), y] ∧
      H' ff = some (.lst (List.replicate (5 * i) (.bl true)))) ⟨sF, _, _, rfl, LF⟩ ?_ ?_⟩
    · rintro i σ H' hi ⟨hs, z0, y0, rfl, hff⟩
      obtain ⟨x, hx⟩ : ∃ x, xs[i]? = some x := ⟨xs[i]'(by omega), List.getElem?_eq_getElem _⟩
      obtain ⟨u, rfl⟩ := hstr x (List.mem_of_getElem? hx)
      have hxi : atI xs (0 + (i : Int)) = some (.str u) := at_of (j := i) (by omega) hx
      obtain ⟨xBadTables, gBadTables⟩ : ∃ e, eBadTables[i]? = some e := ⟨eBadTables[i]'(by omega), List.getElem?_eq_getElem _⟩
      have qBadTables := EBadTables i _ _ gBadTables hx
      have gBadTables : atI (eBadTables.map V.ref) (0 + (i : Int)) = some (.ref xBadTables) := at_of (j := i) (by omega) (by rw [List.getElem?_map, gBadTables]; rfl)
      obtain ⟨xNoName, gNoName⟩ : ∃ e, eNoName[i]? = some e := ⟨eNoName[i]'(by omega), List.getElem?_eq_getElem _⟩
      have qNoName := ENoName i _ _ gNoName hx
      have gNoName : atI (eNoName.map V.ref) (0 + (i : Int)) = some (.ref xNoName) := at_of (j := i) (by omega) (by rw [List.getElem?_map, gNoName]; rfl)
      obtain ⟨xBadName, gBadName⟩ : ∃ e, eBadName[i]? = some e := ⟨eBadName[i]'(by omega), List.getElem?_eq_getElem _⟩
      have qBadName := EBadName i _ _ gBadName hx
      have gBadName : atI (eBadName.map V.ref) (0 + (i : Int)) = some (.ref xBadName) := at_of (j := i) (by omega) (by rw [List.getElem?_map, gBadName]; rfl)
      obtain ⟨xTaken, gTaken⟩ : ∃ e, eTaken[i]? = some e := ⟨eTaken[i]'(by omega), List.getElem?_eq_getElem _⟩
      have qTaken := ETaken i _ _ gTaken hx
      have gTaken : atI (eTaken.map V.ref) (0 + (i : Int)) = some (.ref xTaken) := at_of (j := i) (by omega) (by rw [List.getElem?_map, gTaken]; rfl)
      obtain ⟨xBrokenFact, gBrokenFact⟩ : ∃ e, eBrokenFact[i]? = some e := ⟨eBrokenFact[i]'(by omega), List.getElem?_eq_getElem _⟩
      have qBrokenFact := EBrokenFact i _ _ gBrokenFact hx
      have gBrokenFact : atI (eBrokenFact.map V.ref) (0 + (i : Int)) = some (.ref xBrokenFact) := at_of (j := i) (by omega) (by rw [List.getElem?_map, gBrokenFact]; rfl)
      obtain ⟨dx, w1, w2⟩ := qBadTables.same hs
      refine ⟨_, rfl, .inl ⟨rfl, _, SqL.of hff⟩, _, rfl, _, rfl, lBadTables, _, _, _, rfl, rfl, SqL.of (hs _ _ LBadTables), gBadTables, xBadTables, T.x_BadTables.C, dx, _, _, rfl, w1, w2, T.x_BadTables.xfc, T.f_BadTables_init_table, lookup1 _ _, ?_⟩
      refine ⟨_, rfl, _, rfl, lt, _, _, _, rfl, rfl, SqL.of (hs _ _ L3), hxi, ?_⟩
      refine ⟨rfl, _, rfl, ?_⟩
      rw [decide_eq_true (rfl : V.str u = V.str u)]
      refine iteT ?_
      refine ⟨_, rfl, _, rfl, lBadTables, _, _, _, rfl, rfl, SqL.of (hs _ _ LBadTables), gBadTables, xBadTables, _, _, T.x_BadTables, rfl, (qBadTables.same hs).is, .inl rfl, fun r K1 _ t1 er1 => ?_⟩
      rw [idx_BadTables] at er1
      refine ⟨(by show 1 ≤ sizeLine; decide), fun r2 K2 _ t2 er2 => ?_⟩
      refine ⟨_, _, .lst (SqL.of (t2 _ _ er1)) (dp_ints [0]), .lst (SqL.of er2) (dp_ints [0]), by decide +kernel, by decide +kernel, ?_⟩
      rw [show PyData.eqv (.list ([0].map PyData.int)) (.list ([0].map PyData.int)) = true from by decide +kernel]
      have sK : Same H' K2 := t1.trans t2
      refine ⟨ff, _, _, rfl, rfl, sK _ _ hff, by rw [List.length_replicate]; exact Nat.lt_of_lt_of_le (show 5 * i + 0 < 100 by omega) (by decide), fun K3 t3 er3 => ?_⟩
      replace hs := Same.but (hs.trans sK) nF t3
      replace hff : K3 ff = some (.lst (List.replicate (5 * i + 1) (.bl true))) := by rw [er3, ← List.replicate_succ']
      clear sK t1 t2 t3 er1 er2 er3 w1 w2 dx
      obtain ⟨dx, w1, w2⟩ := qNoName.same hs
      refine ⟨_, rfl, .inl ⟨rfl, _, SqL.of hff⟩, _, rfl, _, rfl, lNoName, _, _, _, rfl, rfl, SqL.of (hs _ _ LNoName), gNoName, xNoName, T.x_NoName.C, dx, _, _, rfl, w1, w2, T.x_NoName.xfc, T.f_NoName_init_name, lookup1 _ _, ?_⟩
      refine ⟨_, rfl, _, rfl, lt, _, _, _, rfl, rfl, SqL.of (hs _ _ L3), hxi, ?_⟩
      refine ⟨rfl, _, rfl, ?_⟩
      rw [decide_eq_true (rfl : V.str u = V.str u)]
      refine iteT ?_
      refine ⟨_, rfl, _, rfl, lNoName, _, _, _, rfl, rfl, SqL.of (hs _ _ LNoName), gNoName, xNoName, _, _, T.x_NoName, rfl, (qNoName.same hs).is, .inl rfl, fun r K5 _ t1 er1 => ?_⟩
      rw [idx_NoName] at er1
      refine ⟨(by show 1 ≤ sizeLine; decide), fun r2 K6 _ t2 er2 => ?_⟩
      refine ⟨_, _, .lst (SqL.of (t2 _ _ er1)) (dp_ints [6]), .lst (SqL.of er2) (dp_ints [6]), by decide +kernel, by decide +kernel, ?_⟩
      rw [show PyData.eqv (.list ([6].map PyData.int)) (.list ([6].map PyData.int)) = true from by decide +kernel]
      have sK : Same K3 K6 := t1.trans t2
      refine ⟨ff, _, _, rfl, rfl, sK _ _ hff, by rw [List.length_replicate]; exact Nat.lt_of_lt_of_le (show 5 * i + 1 < 100 by omega) (by decide), fun K7 t3 er3 => ?_⟩
      replace hs := Same.but (hs.trans sK) nF t3
      replace hff : K7 ff = some (.lst (List.replicate (5 * i + 2) (.bl true))) := by rw [er3, ← List.replicate_succ']
      clear sK t1 t2 t3 er1 er2 er3 w1 w2 dx
      obtain ⟨dx, w1, w2⟩ := qBadName.same hs
      refine ⟨_, rfl, .inl ⟨rfl, _, SqL.of hff⟩, _, rfl, _, rfl, lBadName, _, _, _, rfl, rfl, SqL.of (hs _ _ LBadName), gBadName, xBadName, T.x_BadName.C, dx, _, _, rfl, w1, w2, T.x_BadName.xfc, T.f_BadName_init_name, lookup1 _ _, ?_⟩
      refine ⟨_, rfl, _, rfl, lt, _, _, _, rfl, rfl, SqL.of (hs _ _ L3), hxi, ?_⟩
      refine ⟨rfl, _, rfl, ?_⟩
      rw [decide_eq_true (rfl : V.str u = V.str u)]
      refine iteT ?_
      refine ⟨_, rfl, _, rfl, lBadName, _, _, _, rfl, rfl, SqL.of (hs _ _ LBadName), gBadName, xBadName, _, _, T.x_BadName, rfl, (qBadName.same hs).is, .inl rfl, fun r K9 _ t1 er1 => ?_⟩
      rw [idx_BadName] at er1
      refine ⟨(by show 1 ≤ sizeLine; decide), fun r2 K10 _ t2 er2 => ?_⟩
      refine ⟨_, _, .lst (SqL.of (t2 _ _ er1)) (dp_ints [7]), .lst (SqL.of er2) (dp_ints [7]), by decide +kernel, by decide +kernel, ?_⟩
      rw [show PyData.eqv (.list ([7].map PyData.int)) (.list ([7].map PyData.int)) = true from by decide +kernel]
      have sK : Same K7 K10 := t1.trans t2
      refine ⟨ff, _, _, rfl, rfl, sK _ _ hff, by rw [List.length_replicate]; exact Nat.lt_of_lt_of_le (show 5 * i + 2 < 100 by omega) (by decide), fun K11 t3 er3 => ?_⟩
      replace hs := Same.but (hs.trans sK) nF t3
      replace hff : K11 ff = some (.lst (List.replicate (5 * i + 3) (.bl true))) := by rw [er3, ← List.replicate_succ']
      clear sK t1 t2 t3 er1 er2 er3 w1 w2 dx
      obtain ⟨dx, w1, w2⟩ := qTaken.same hs
      refine ⟨_, rfl, .inl ⟨rfl, _, SqL.of hff⟩, _, rfl, _, rfl, lTaken, _, _, _, rfl, rfl, SqL.of (hs _ _ LTaken), gTaken, xTaken, T.x_Taken.C, dx, _, _, rfl, w1, w2, T.x_Taken.xfc, T.f_Taken_init_name, lookup1 _ _, ?_⟩
      refine ⟨_, rfl, _, rfl, lt, _, _, _, rfl, rfl, SqL.of (hs _ _ L3), hxi, ?_⟩
      refine ⟨rfl, _, rfl, ?_⟩
      rw [decide_eq_true (rfl : V.str u = V.str u)]
      refine iteT ?_
      refine ⟨_, rfl, _, rfl, lTaken, _, _, _, rfl, rfl, SqL.of (hs _ _ LTaken), gTaken, xTaken, _, _, T.x_Taken, rfl, (qTaken.same hs).is, .inl rfl, fun r K13 _ t1 er1 => ?_⟩
      rw [idx_Taken] at er1
      refine ⟨(by show 1 ≤ sizeLine; decide), fun r2 K14 _ t2 er2 => ?_⟩
      refine ⟨_, _, .lst (SqL.of (t2 _ _ er1)) (dp_ints [8]), .lst (SqL.of er2) (dp_ints [8]), by decide +kernel, by decide +kernel, ?_⟩
      rw [show PyData.eqv (.list ([8].map PyData.int)) (.list ([8].map PyData.int)) = true from by decide +kernel]
      have sK : Same K11 K14 := t1.trans t2
      refine ⟨ff, _, _, rfl, rfl, sK _ _ hff, by rw [List.length_replicate]; exact Nat.lt_of_lt_of_le (show 5 * i + 3 < 100 by omega) (by decide), fun K15 t3 er3 => ?_⟩
      replace hs := Same.but (hs.trans sK) nF t3
      replace hff : K15 ff = some (.lst (List.replicate (5 * i + 4) (.bl true))) := by rw [er3, ← List.replicate_succ']
      clear sK t1 t2 t3 er1 er2 er3 w1 w2 dx
      obtain ⟨dx, w1, w2⟩ := qBrokenFact.same hs
      refine ⟨_, rfl, .inl ⟨rfl, _, SqL.of hff⟩, _, rfl, _, rfl, lBrokenFact, _, _, _, rfl, rfl, SqL.of (hs _ _ LBrokenFact), gBrokenFact, xBrokenFact, T.x_BrokenFact.C, dx, _, _, rfl, w1, w2, T.x_BrokenFact.xfc, T.f_BrokenFact_init_fact, lookup1 _ _, ?_⟩
      refine ⟨_, rfl, _, rfl, lt, _, _, _, rfl, rfl, SqL.of (hs _ _ L3), hxi, ?_⟩
      refine ⟨rfl, _, rfl, ?_⟩
      rw [decide_eq_true (rfl : V.str u = V.str u)]
      refine iteT ?_
      refine ⟨_, rfl, _, rfl, lBrokenFact, _, _, _, rfl, rfl, SqL.of (hs _ _ LBrokenFact), gBrokenFact, xBrokenFact, _, _, T.x_BrokenFact, rfl, (qBrokenFact.same hs).is, .inl rfl, fun r K17 _ t1 er1 => ?_⟩
      rw [idx_BrokenFact] at er1
      refine ⟨(by show 1 ≤ sizeLine; decide), fun r2 K18 _ t2 er2 => ?_⟩
      refine ⟨_, _, .lst (SqL.of (t2 _ _ er1)) (dp_ints [11]), .lst (SqL.of er2) (dp_ints [11]), by decide +kernel, by decide +kernel, ?_⟩
      rw [show PyData.eqv (.list ([11].map PyData.int)) (.list ([11].map PyData.int)) = true from by decide +kernel]
      have sK : Same K15 K18 := t1.trans t2
      refine ⟨ff, _, _, rfl, rfl, sK _ _ hff, by rw [List.length_replicate]; exact Nat.lt_of_lt_of_le (show 5 * i + 4 < 100 by omega) (by decide), fun K19 t3 er3 => ?_⟩
      replace hs := Same.but (hs.trans sK) nF t3
      replace hff : K19 ff = some (.lst (List.replicate (5 * i + 5) (.bl true))) := by rw [er3, ← List.replicate_succ']
      clear sK t1 t2 t3 er1 er2 er3 w1 w2 dx
      exact ⟨hs, _, _, rfl, hff⟩
    · rintro σ H' ⟨hs, z0, y0, rfl, hff⟩
      refine ⟨_, rfl, ff, _, rfl, .inl (SqL.of hff), rfl, flat_true _, ?_⟩
      show Q (.bl (!inV (.bl false) (List.replicate (5 * 2) (V.bl true)))) H'
      rw [notin_true]
      exact k H' ((hp2.same hs).mono (by show n + 5 ≤ n + 1000; omega))
end
end L2.Pf
set_option maxHeartbeats 4000000
namespace L2.Ev
open PySem PySem.Spec PyProof.Rows
theorem exo_dK {e C : Addr} {d : Option Addr} {xs : List (Key × V)} : exo e C d ≠ .dK xs := fun z => by
  have z' : HO.ext _ = HO.dK xs := z
  cases z'
theorem lookup2 (f g : Str) (v w : V) (h : g ≠ f) : ([(f, v), (g, w)] : List (Str × V)).lookup g = some w := by
  have e : (g == f) = false := by simpa using h
  simp [List.lookup, e]
theorem lookup1' (f : Str) (v : V) (r : List (Str × V)) : ((f, v) :: r).lookup f = some v := by simp [List.lookup]
/-- two keys -/
def two (k1 k2 : Str) (v1 v2 : V) : List (Key × V) := [(Sum.inr k1, v1), (Sum.inr k2, v2)]
theorem two_merge {k1 k2 : Str} {v1 v2 : V} (h : k1 ≠ k2) : mergeK [] [(Sum.inr k1, v1), (Sum.inr k2, v2)] = two k1 k2 v1 v2 := by
  have h' : ¬ (Sum.inr k1 : Key) = Sum.inr k2 := fun z => h (Sum.inr.inj z)
  simp [mergeK, putK, two, h]
theorem two_val1 {k1 k2 : Str} {v1 v2 : V} : valV (two k1 k2 v1 v2) (Sum.inr k1) = some v1 := valV_pos rfl
theorem two_val2 {k1 k2 : Str} {v1 v2 : V} (h : k1 ≠ k2) : valV (two k1 k2 v1 v2) (Sum.inr k2) = some v2 :=
  (valV_neg (fun z => h (Sum.inr.inj z))).trans (valV_pos rfl)
theorem two_get {H : Hp} {d : Addr} {k1 k2 : Str} {v1 v2 : V} (h : H d = some (.dK (two k1 k2 v1 v2))) : DGet H d (.str k1) (some v1) := by
  have e := DGet.k (k := Sum.inr k1) h
  rw [two_val1] at e
  exact e
end L2.Ev
namespace L2.Pf
open PySem PySem.Spec PyProof.Rows L2.Ev
local macro_rules | `(tactic| walk_at "in") => `(tactic| repeat (with_reducible first | refine in_name ?_ | refine in_seq ?_ | refine in_par ?_ | refine in_cons ?_ | refine in_nil ?_ | refine in_asg ?_ | refine in_ret ?_ | refine in_drop ?_ | refine in_next ?_))
section
variable {P : Program} {w : World} {K : PySem.W.Frag} {mg : Str → Option Value} {base : Heap}
theorem idx_NotAlike : idx "NotAlike" = [9].map V.int := by decide +kernel
theorem idx_Rests : idx "Rests" = [10].map V.int := by decide +kernel
theorem idx_OtherTables : idx "OtherTables" = [3].map V.int := by decide +kernel
theorem idx_NothingToUndo : idx "NothingToUndo" = [12].map V.int := by decide +kernel
theorem idx_LookError : idx "LookError" = [] := by decide +kernel
/-- what the making of an error with tables gives -/
theorem mk2_read {C d : Addr} {H1 : Hp} {v : V} {kvs : List (Key × V)} {Q : VK} {E : XK} (hd : H1 d = some (.dK kvs)) (hl : kvs.length ≤ 1000 ∧ (kvs.map (·.1)).Nodup) (hv : ∀ x ∈ kvs, ∃ l xs, x.2 = .ref l ∧ H1 l = some (.lst xs))
    (k : ∀ a r kvs' H', H1 a = none → Same H1 H' → ErrAt H' a C [("tables", .ref r), ("name", v)] → H' r = some (.dK kvs') → H1 r = none → Copied H1 H' kvs kvs' → Q (.ref a) H') :
    ∀ a, H1 a = none → sp_ini2 C [.ref a, v, .ref d] (upd H1 a (exo a C none)) (fun x H2 => x = .non ∧ Q (.ref a) H2) E := by
  intro a ha
  have hs : Same H1 (upd H1 a (exo a C none)) := Same.new (Same.refl H1) ha
  refine ⟨a, v, d, kvs, rfl, upd_same, hs _ _ hd, hl, fun x hx => ?_, fun dx r kvs' H' hdx hr hb e1 e2 e3 hc => ⟨rfl, k a r kvs' H' ha ?_ ⟨dx, e1, e2⟩ e3 (Same.free hs hr) ⟨hc.1, fun i key l xs q1 q2 => ?_⟩⟩⟩
  · obtain ⟨l, xs, e1, e2⟩ := hv x hx
    exact ⟨l, xs, e1, hs _ _ e2⟩
  · intro b o e
    exact hb b o (ne_of_none e ha) (hs b o e)
  · obtain ⟨l', q3, q4, q5⟩ := hc.2 i key l xs q1 (hs _ _ q2)
    exact ⟨l', q3, q4, Same.free hs q5⟩
/-- what stands behind an error with tables made of the j-th row -/
structure PartAt (H H' : Hp) (names rows : List V) (u2 u3 : Str) (C : Addr) (j : Nat) (e : Addr) (D : Addr) : Prop where
  ex : ∃ (u : Str) (d l0 m0 t r l m : Addr), atI names (0 + (j : Int)) = some (.str u) ∧ atI rows (0 + (j : Int)) = some (.ref d) ∧ H d = some (.dK (two u2 u3 (.ref l0) (.ref m0))) ∧ H l0 = some (.lst [.ref t]) ∧
    ErrAt H' e C [("tables", .ref r), ("name", .str u)] ∧ H' r = some (.dK (two u2 u3 (.ref l) (.ref m))) ∧ H' l = some (.lst [.ref t]) ∧ H' m = some (.lst []) ∧ H l = none ∧ H m = none ∧ l ≠ D ∧ m ≠ D
theorem lc_parts {C : Addr} {names rows : List V} {u2 u3 : Str} {σ : St} {H : Hp} {Q : VK} {ln lr : Addr} (i1 : σ[1]? = some (some (.ref ln))) (i3 : σ[3]? = some (some (.ref lr))) (h4 : 4 < σ.length) (Ln : H ln = some (.lst names)) (Lr : H lr = some (.lst rows)) (n23 : u2 ≠ u3)
    (hu : ∀ i : Nat, i < 2 → ∃ u, atI names (0 + (i : Int)) = some (.str u)) (hR : ∀ i : Nat, i < 2 → ∃ d l m t : Addr, atI rows (0 + (i : Int)) = some (.ref d) ∧ H d = some (.dK (two u2 u3 (.ref l) (.ref m))) ∧ H l = some (.lst [.ref t]) ∧ H m = some (.lst []))
    (k : ∀ (D : Addr) (H' : Hp) (es : List Addr), H D = none → Same H H' → H' D = some (.lst (es.map V.ref)) → es.length = 2 → (∀ (j : Nat) e, es[j]? = some e → PartAt H H' names rows u2 u3 C j e D) → Q (.ref D) H') :
    tLc (iRng1 (tCons (tC (.int 2)) tNil)) (gName 4) tYes (tMkV C (sp_ini2 C) (tCons (tOp (rIxL K) (tVar 1) (tVar 4)) (tCons (tOp (rIxL K) (tVar 3) (tVar 4)) tNil))) [4] σ H Q := by
  refine ⟨2, rfl, by decide, by decide, fun D hD => ?_⟩
  refine lc_grow (n := 2) hD (fun i acc Hc => ∃ es : List Addr, acc = es.map V.ref ∧ es.length = i ∧ ∀ (j : Nat) e, es[j]? = some e → PartAt H Hc names rows u2 u3 C j e D) ?_ ?_ ?_ ?_ (by decide) ?_ ?_
  · rintro i acc Hc o ⟨es, e1, e2, e3⟩ ⟨y, hy⟩
    refine ⟨es, e1, e2, fun j e he => ?_⟩
    obtain ⟨u, d, l0, m0, t, r, l, m, q1, q2, q3, q4, q5, q6, q7, q8, q9, q10, q11, q12⟩ := (e3 j e he).ex
    exact ⟨u, d, l0, m0, t, r, l, m, q1, q2, q3, q4, q5.off hy, by rw [upd_ne (ne_of q6 hy (fun z => by cases z))]; exact q6, by rw [upd_ne q11]; exact q7, by rw [upd_ne q12]; exact q8, q9, q10, q11, q12⟩
  · intro Hc _
    exact ⟨[], rfl, rfl, fun j e he => absurd he (by simp)⟩
  · intro i Hc hi _
    exact hi
  · intro Hc _
    exact Nat.le_refl 2
  · rintro i acc Hc F G hF hG hi hs hacc ⟨es, e1, e2, e3⟩ x Hc' ⟨rfl, rfl⟩
    obtain ⟨u, hu1⟩ := hu i hi
    obtain ⟨d, l, m, t, r1, r2, r3, r4⟩ := hR i hi
    refine ⟨wipe1 σ 4 _, ?_⟩
    refine ⟨_, (wiped_ne σ 4 1 _ (by decide)).trans i1, _, wiped σ 4 _ h4, ln, _, _, _, rfl, rfl, SqL.of (hs _ _ Ln), hu1, ?_⟩
    refine ⟨_, (wiped_ne σ 4 3 _ (by decide)).trans i3, _, wiped σ 4 _ h4, lr, _, _, _, rfl, rfl, SqL.of (hs _ _ Lr), r1, (by show 2 ≤ 1000; decide), ?_⟩
    refine mk2_read (hs _ _ r2) ⟨by show 2 ≤ 1000; decide, ?_⟩ ?_ ?_
    · show ([Sum.inr u2, Sum.inr u3] : List Key).Nodup
      simp [n23]
    · intro x hx
      have hx' : x = (Sum.inr u2, .ref l) ∨ x = (Sum.inr u3, .ref m) := by
        simpa [two] using hx
      rcases hx' with z | z
      · exact ⟨l, _, by rw [z], hs _ _ r3⟩
      · exact ⟨m, _, by rw [z], hs _ _ r4⟩
    · intro a r kvs' H' ha s1 he hr hr0 hc
      refine hF _ _ s1 ⟨es ++ [a], by rw [e1, List.map_append]; rfl, by rw [List.length_append, e2]; rfl, fun j e he2 => ?_⟩
      rcases Nat.lt_or_ge j es.length with hj | hj
      · rw [List.getElem?_append_left hj] at he2
        obtain ⟨u, d, l0, m0, t, r, l, m, q1, q2, q3, q4, q5, q6, q7, q8, q9⟩ := (e3 j e he2).ex
        exact ⟨u, d, l0, m0, t, r, l, m, q1, q2, q3, q4, q5.same s1, s1 _ _ q6, s1 _ _ q7, s1 _ _ q8, q9⟩
      · have hj0 : j = i := by
          have z := (List.getElem?_eq_some_iff.mp he2).1
          rw [List.length_append] at z
          simp at z
          omega
        subst hj0
        rw [List.getElem?_append_right hj, e2, Nat.sub_self] at he2
        cases he2
        obtain ⟨c1, c2⟩ := hc
        obtain ⟨l', w1, w2, w3⟩ := c2 0 (Sum.inr u2) l _ rfl (hs _ _ r3)
        obtain ⟨m', w4, w5, w6⟩ := c2 1 (Sum.inr u3) m _ rfl (hs _ _ r4)
        have ek : kvs' = two u2 u3 (.ref l') (.ref m') := by
          match kvs', c1, w1, w4 with
          | [x, y], _, w1, w4 =>
            cases w1
            cases w4
            rfl
        rw [ek] at hr
        refine ⟨u, d, l, m, t, r, l', m', hu1, r1, r2, r3, he, hr, w2, w5, Same.free hs w3, Same.free hs w6, fun z => ?_, fun z => ?_⟩
        · rw [z, hacc] at w3
          cases w3
        · rw [z, hacc] at w6
          cases w6
  · rintro acc Hc s hacc ⟨es, e1, e2, e3⟩
    exact k D Hc es hD s (e1 ▸ hacc) e2 e3
theorem ok_shown (T : TX K mg) : FnOk P w K mg base CX0 4 T.a_shown T.fd_shown p_shown sp_part := by
  refine T.F_shown.ok sc_shown (fun vs H Q E h => ?_) (fun cdv A outer s H vs Q E hr h => ?_)
  · obtain ⟨p, c, ns, n, rfl, _⟩ := h
    rfl
  · obtain ⟨p, c, ns, n, rfl, hp, hn, k⟩ := h
    refine ⟨_, (pss_cons (ps_asg (pe_tupS (pa_cons (pe_call (ok_new_names T) (hr.mono (by decide)) rfl T.g_new_names T.F_new_names.kp T.b_new_names .nil pass0 (pa_cons (pv 0) (pa_cons pe_int pa_nil))) (pa_cons (pe_lstS pa_nil) pa_nil))) (pg_tup rfl (pgs_cons (pg_name (i := 1) sc_shown.nd rfl (Or.inr rfl)) (pgs_cons (pg_name (i := 2) sc_shown.nd rfl (Or.inl rfl)) pgs_nil))))
  (pss_cons (ps_set (i := 3) sc_shown.nd rfl (Or.inr rfl) (pe_lc (own := [("_law_k", 4)]) (g := gName 4) (tt := tYes) rfl sc_shown.nd (pi_range1 (by rfl) T.z_range (pa_cons pe_int pa_nil)) (blkOk_by (own := [("_law_k", 4)]) (N := n_shown) (sc := defScope s_shown) (by decide +kernel)) (fun _ _ _ _ _ => (pg_name (i := 4) sc_shown.nd rfl (Or.inl rfl))) (fun _ _ _ _ _ => pts_nil) (fun _ _ _ _ _ => (pe_disp (pps_cons (pe_ix (ix_listK (K := K)) (pv 1) pe_int (fun _ _ => rfl)) (pe_lstS (pa_cons (pe_tupS (pa_cons (pe_call (ok_new_integer T) (hr.mono (by decide)) rfl T.g_new_integer T.F_new_integer.kp T.b_new_integer .nil pass0 (pa_cons (pv 0) pa_nil)) (pa_cons (pv 4) pa_nil))) pa_nil)) (pps_cons (pe_ix (ix_listK (K := K)) (pv 1) pe_int (fun _ _ => rfl)) (pe_lstS pa_nil) pps_nil)) (by rfl) (by rfl) (fun z => by cases z) (by decide)))))
  (pss_cons (ps_par (i := 5) (j := 6) (by rfl) sc_shown.nd rfl rfl (by decide) rfl rfl (pa_cons (pe_lc (own := [("_law_k", 4)]) (g := gName 4) (tt := tYes) rfl sc_shown.nd (pi_range1 (by rfl) T.z_range (pa_cons pe_int pa_nil)) (blkOk_by (own := [("_law_k", 4)]) (N := n_shown) (sc := defScope s_shown) (by decide +kernel)) (fun _ _ _ _ _ => (pg_name (i := 4) sc_shown.nd rfl (Or.inl rfl))) (fun _ _ _ _ _ => pts_nil) (fun _ _ _ _ _ => (pe_mkV T.x_NotAlike.oex T.i_NotAlike_init T.t_NotAlike_init (ok_NotAlike_init T) (hr.mono (by decide)) T.b_NotAlike_init rfl T.x_NotAlike.g (pa_cons (pe_ix (ix_listK (K := K)) (pv 1) (pv 4) (fun _ _ => rfl)) (pa_cons (pe_ix (ix_listK (K := K)) (pv 3) (pv 4) (fun _ _ => rfl)) pa_nil))))) (pa_cons (pe_lc (own := [("_law_k", 4)]) (g := gName 4) (tt := tYes) rfl sc_shown.nd (pi_range1 (by rfl) T.z_range (pa_cons pe_int pa_nil)) (blkOk_by (own := [("_law_k", 4)]) (N := n_shown) (sc := defScope s_shown) (by decide +kernel)) (fun _ _ _ _ _ => (pg_name (i := 4) sc_shown.nd rfl (Or.inl rfl))) (fun _ _ _ _ _ => pts_nil) (fun _ _ _ _ _ => (pe_mkV T.x_Rests.oex T.i_Rests_init T.t_Rests_init (ok_Rests_init T) (hr.mono (by decide)) T.b_Rests_init rfl T.x_Rests.g (pa_cons (pe_ix (ix_listK (K := K)) (pv 1) (pv 4) (fun _ _ => rfl)) (pa_cons (pe_ix (ix_listK (K := K)) (pv 3) (pv 4) (fun _ _ => rfl)) pa_nil))))) pa_nil)) (by rfl))
  (pss_cons (ps_for PassesOwn.never rfl (pi_range1 (by rfl) T.z_range (pa_cons pe_int pa_nil)) (pg_name (i := 4) sc_shown.nd rfl (Or.inl rfl)) (pss_cons (ps_set (i := 7) sc_shown.nd rfl (Or.inl rfl) (pe_disp (pps_cons (pe_ix ix_list (pv 1) pe_int (fun _ _ => rfl)) (pe_lstS (pa_cons (pe_ix ix_list (pe_dget (hu_of hr) (pe_ix ix_list (pv 3) (pv 4) (fun _ _ => rfl)) (pe_ix ix_list (pv 1) pe_int (fun _ _ => rfl)) (fun _ _ => rfl)) pe_int (fun _ _ => rfl)) pa_nil)) (pps_cons (pe_ix ix_list (pv 1) pe_int (fun _ _ => rfl)) (pe_lstS pa_nil) pps_nil)) (by rfl) (by rfl) (fun z => by cases z) (by decide)))
  (pss_cons (ps_expr (pe_bm PySem.F.plainAttrs_list PySem.F.slot_list_append PySem.F.type_list_append mt_appendS (pv 2) (pa_cons (pe_and (pe_cmpR op_eq (pe_xv (pe_ix ix_list (pv 5) (pv 4) (fun _ _ => rfl))) (pe_ix ix_list (pv 1) (pv 4) (fun _ _ => rfl)) (nomark _)) (pe_and (pe_cmpR (op_eqV hr.units) (pe_xv (pe_ix ix_list (pv 5) (pv 4) (fun _ _ => rfl))) (pv 7) (nomark _)) (pe_one (pe_cmpR (op_eqD hr.units) (pe_call (ok_classes T) (hr.mono (by decide)) rfl T.g_classes T.F_classes.kp T.b_classes .nil pass0 (pa_cons (pe_ix ix_list (pv 5) (pv 4) (fun _ _ => rfl)) pa_nil)) (pe_lstS (pa_cons pe_int pa_nil)) (nomark _))))) pa_nil)))
  (pss_one (ps_expr (pe_bm PySem.F.plainAttrs_list PySem.F.slot_list_append PySem.F.type_list_append mt_appendS (pv 2) (pa_cons (pe_and (pe_cmpR op_eq (pe_xv (pe_ix ix_list (pv 6) (pv 4) (fun _ _ => rfl))) (pe_ix ix_list (pv 1) (pv 4) (fun _ _ => rfl)) (nomark _)) (pe_and (pe_cmpR (op_eqV hr.units) (pe_xv (pe_ix ix_list (pv 6) (pv 4) (fun _ _ => rfl))) (pv 7) (nomark _)) (pe_one (pe_cmpR (op_eqD hr.units) (pe_call (ok_classes T) (hr.mono (by decide)) rfl T.g_classes T.F_classes.kp T.b_classes .nil pass0 (pa_cons (pe_ix ix_list (pv 6) (pv 4) (fun _ _ => rfl)) pa_nil)) (pe_lstS (pa_cons pe_int pa_nil)) (nomark _))))) pa_nil)))))))
  (pss_cons (ps_set (i := 2) sc_shown.nd rfl (Or.inl rfl) (pe_op op_catS (pv 2) (pe_lstS (pa_cons (pe_cmpR (op_eqD hr.units) (pe_call (ok_classes T) (hr.mono (by decide)) rfl T.g_classes T.F_classes.kp T.b_classes .nil pass0 (pa_cons (pe_mk0 PySem.F.excBase_ValueError T.e_OtherTables T.x_OtherTables.g T.x_OtherTables.kp rfl) pa_nil)) (pe_lstS (pa_cons pe_int pa_nil)) (nomark _)) (pa_cons (pe_cmpR (op_eqD hr.units) (pe_call (ok_classes T) (hr.mono (by decide)) rfl T.g_classes T.F_classes.kp T.b_classes .nil pass0 (pa_cons (pe_mk0 PySem.F.excBase_ValueError T.e_NothingToUndo T.x_NothingToUndo.g T.x_NothingToUndo.kp rfl) pa_nil)) (pe_lstS (pa_cons pe_int pa_nil)) (nomark _)) pa_nil)))))
  (pss_one (ps_ret (pe_and (pe_cmpR op_notIn_seq pe_bl (pv 2) (by rfl)) (pe_one (pe_cmpR (op_eqNil hr.units0) (pe_call (ok_classes T) (hr.mono (by decide)) rfl T.g_classes T.F_classes.kp T.b_classes .nil pass0 (pa_cons (pe_mk0 PySem.F.excBase_ValueError T.e_LookError T.x_LookError.g T.x_LookError.kp rfl) pa_nil)) (pe_lstS pa_nil) (nomark _))))))))))), ?_⟩
    refine ⟨_, rfl, p, c, ns, n, 4, rfl, hp, by decide, by omega, fun us ln H1 hus hnd hin _ Ln hp1 _ => ?_⟩
    refine ⟨Nat.zero_le _, fun ff H2 nf s2 LF => ?_⟩
    have ncf : c ≠ ff := ne_of_none hp1.cells nf
    replace Ln := s2 _ _ Ln
    replace hp1 := hp1.same s2
    have hlf : ln ≠ ff := fun z => by
      rw [z, LF] at Ln
      cases us with
      | nil => simp at hus
      | cons x xs => cases Ln
    refine ⟨(by show 2 ≤ sizeLine; decide), fun tp H3 _ s3 Lt => ?_⟩
    refine ⟨tp, _, rfl, SqT.of Lt, rfl, .ref ln, [.ref ff], rfl, .ref ff, [], rfl, rfl, ?_⟩
    replace Ln := s3 _ _ Ln
    replace LF := s3 _ _ LF
    replace hp1 := hp1.same s3
    clear nf s2 s3 Lt
    match us, hus, hnd with
    | [u0, u1, u2, u3], _, hnd =>
    have n23 : u2 ≠ u3 := by
      simp at hnd
      exact hnd.2.2
    have hu : ∀ i : Nat, i < 2 → ∃ u, atI ([u0, u1, u2, u3].map V.str) (0 + (i : Int)) = some (.str u) := fun i hi => by
      have hh : i = 0 ∨ i = 1 := by omega
      rcases hh with rfl | rfl
      · exact ⟨u0, rfl⟩
      · exact ⟨u1, rfl⟩
    -- the rows
    refine ⟨2, rfl, by decide, by decide, fun lr hlr => ?_⟩
    have nlp : lr ≠ p := Ne.symm (ne_of_none hp1.d.choose_spec.choose_spec.1 hlr)
    have nlc : lr ≠ c := Ne.symm (ne_of_none hp1.cells hlr)
    have npl : ∀ {b : Addr} {xs : List V} {H : Hp} {m : Nat}, Pen H p c ns m → H b = some (.lst xs) → b ≠ p := fun q e2 z => by
      obtain ⟨t, l, e, _⟩ := q.d
      rw [z, e] at e2
      cases e2
    refine lc_growB (n := 2) (p := p) hlr nlp (fun i acc Hc => Pen Hc p c ns (n + 16 + 4 * i) ∧ acc.length = i ∧ ∀ (j : Nat) x, acc[j]? = some x → ∃ d l m t : Addr, x = .ref d ∧ Hc d = some (.dK (two u2 u3 (.ref l) (.ref m))) ∧ d ≠ p ∧
      Hc l = some (.lst [.ref t]) ∧ Hc m = some (.lst []) ∧ l ≠ lr ∧ m ≠ lr) ?_ ?_ ?_ ?_ (by decide) ?_ ?_
    · rintro i acc Hc o ⟨q1, q2, q3⟩ ⟨u, hu⟩
      refine ⟨q1.upd nlp nlc, q2, fun j x hx => ?_⟩
      obtain ⟨d, l, m, t, e1, e2, e3, e4, e5, e6, e7⟩ := q3 j x hx
      exact ⟨d, l, m, t, e1, by rw [upd_ne (ne_of e2 hu (fun z => by cases z))]; exact e2, e3, by rw [upd_ne e6]; exact e4, by rw [upd_ne e7]; exact e5, e6, e7⟩
    · intro Hc s
      exact ⟨hp1.same s, rfl, fun j x hx => absurd hx (by simp)⟩
    · intro i Hc hi _
      exact hi
    · intro Hc _
      exact Nat.le_refl 2
    · rintro i acc Hc F G hF hG hi hb hacc ⟨q1, q2, q3⟩ x Hc' ⟨rfl, rfl⟩
      have hln : Hc' ln = some (.lst ([u0, u1, u2, u3].map V.str)) := hb _ _ (npl hp1 Ln) Ln
      refine ⟨rfl, ?_⟩
      show tDisp _ _ Hc' F
      intro d hd
      have s0 : Same Hc' (upd Hc' d (.dK [])) := Same.new (Same.refl _) hd
      have d0 : (upd Hc' d (.dK [])) d = some (.dK []) := upd_same
      generalize upd Hc' d (.dK []) = H5 at s0 d0
      refine ⟨_, rfl, ln, _, _, _, rfl, rfl, SqL.of (s0 _ _ hln), (show atI ([u0, u1, u2, u3].map V.str) 2 = some (.str u2) from rfl), ?_⟩
      refine ⟨_, rfl, p, c, ns, _, rfl, q1.same s0, by omega, fun z H6 hp6 hb6 => ?_⟩
      refine ⟨_, rfl, (by show 2 ≤ sizeLine; decide), fun t H7 _ s7 L7 => ?_⟩
      refine ⟨(by show 1 ≤ sizeLine; decide), fun l H8 n8 s8 L8 => ?_⟩
      have hb8 : But p Hc' H8 := ((But.of s0).trans hb6).trans (But.of (s7.trans s8))
      have npd : d ≠ p := fun z => by
        rw [z] at hd
        obtain ⟨_, _, e, _⟩ := q1.d
        rw [e] at hd
        cases hd
      have npn : ln ≠ p := npl q1 hln
      refine ⟨_, rfl, ln, _, _, _, rfl, rfl, SqL.of (hb8 _ _ npn hln), (show atI ([u0, u1, u2, u3].map V.str) 3 = some (.str u3) from rfl), ?_⟩
      refine ⟨Nat.zero_le _, fun m H9 n9 s9 L9 => ?_⟩
      have d9 : H9 d = some (.dK []) := s9 _ _ (s8 _ _ (s7 _ _ (hb6 _ _ npd d0)))
      refine ⟨d9, [(Sum.inr u2, .ref l), (Sum.inr u3, .ref m)], rfl, by show 2 ≤ 15; decide, ?_⟩
      rw [two_merge n23]
      have hb9 : But p Hc' H9 := hb8.trans (But.of s9)
      have hlr9 : H9 lr = some (.lst acc) := hb9 _ _ nlp hacc
      have l9 : H9 l = some (.lst [.ref t]) := s9 _ _ L8
      have nld : l ≠ d := fun z => by
        rw [z, d9] at l9
        cases l9
      have nmd : m ≠ d := fun z => by
        rw [z, d9] at L9
        cases L9
      have nllr : l ≠ lr := fun z => by
        have q : H7 lr = some (.lst acc) := s7 _ _ (hb6 _ _ nlp (s0 _ _ hacc))
        rw [z, q] at n8
        cases n8
      have nmlr : m ≠ lr := fun z => by
        have q : H8 lr = some (.lst acc) := hb8 _ _ nlp hacc
        rw [z, q] at n9
        cases n9
      have hd0 : Hc' d = none := hd
      have hb10 : But p Hc' (upd H9 d (.dK (two u2 u3 (.ref l) (.ref m)))) := But.own hb9 hd0
      refine hF _ _ hb10 ⟨?_, by rw [List.length_append, q2]; rfl, fun j x hx => ?_⟩
      · have z := (hp6.same (s7.trans (s8.trans s9)))
        refine (z.upd npd (fun e => ?_)).mono (by omega)
        rw [e, z.cells] at d9
        cases d9
      · rcases Nat.lt_or_ge j acc.length with hj | hj
        · rw [List.getElem?_append_left hj] at hx
          obtain ⟨d', l', m', t', e1, e2, e3, e4, e5, e6, e7⟩ := q3 j x hx
          have nl' : l' ≠ p := npl q1 e4
          have nm' : m' ≠ p := npl q1 e5
          exact ⟨d', l', m', t', e1, hb10 _ _ e3 e2, e3, hb10 _ _ nl' e4, hb10 _ _ nm' e5, e6, e7⟩
        · have hj0 : j = acc.length := by
            have z := (List.getElem?_eq_some_iff.mp hx).1
            rw [List.length_append] at z
            simp at z
            omega
          subst hj0
          rw [List.getElem?_append_right (Nat.le_refl _), Nat.sub_self] at hx
          cases hx
          exact ⟨d, l, m, t, rfl, upd_same, npd, by rw [upd_ne nld]; exact l9, by rw [upd_ne nmd]; exact L9, nllr, nmlr⟩
    · rintro acc H4 hb L4 ⟨hp4, hl4, hR⟩
      replace Ln := hb _ _ (npl hp1 Ln) Ln
      have nlr : lr ≠ ff := fun z => by
        rw [z, LF] at hlr
        cases hlr
      replace LF := hb _ _ (npl hp1 LF) LF
      have hR' : ∀ i : Nat, i < 2 → ∃ d l m t : Addr, atI acc (0 + (i : Int)) = some (.ref d) ∧ H4 d = some (.dK (two u2 u3 (.ref l) (.ref m))) ∧ H4 l = some (.lst [.ref t]) ∧ H4 m = some (.lst []) := fun i hi => by
        have e := List.getElem?_eq_getElem (l := acc) (i := i) (by omega)
        obtain ⟨d, l, m, t, e1, e2, e3, e4, e5, e6, e7⟩ := hR i _ e
        exact ⟨d, l, m, t, at_of (j := i) (by omega) (e.trans (by rw [e1])), e2, e4, e5⟩
      clear hb hR hlr nlp nlc hp1
      walk_at "in"
      refine lc_parts (names := [u0, u1, u2, u3].map V.str) (rows := acc) (by exact rfl) (by exact rfl) (by show 4 < 8; decide) Ln L4 n23 hu hR' (fun lp H5 es nP s5 LP eP PP => ?_)
      walk_at "in"
      refine lc_parts (names := [u0, u1, u2, u3].map V.str) (rows := acc) (by exact rfl) (by exact rfl) (by show 4 < 8; decide) (s5 _ _ Ln) (s5 _ _ L4) n23 hu (fun i hi => ?_) (fun ls H6 fs nS s6 LS eS PS => ?_)
      · obtain ⟨d, l, m, t, e1, e2, e3, e4⟩ := hR' i hi
        exact ⟨d, l, m, t, e1, s5 _ _ e2, s5 _ _ e3, s5 _ _ e4⟩
      refine ⟨_, _, rfl, ?_⟩
      have s46 : Same H4 H6 := s5.trans s6
      have nfp : lp ≠ ff := fun z => by
        rw [z, LF] at nP
        cases nP
      have nfs : ls ≠ ff := fun z => by
        rw [z, s5 _ _ LF] at nS
        cases nS
      replace LP := s6 _ _ LP
      replace LF6 := s46 _ _ LF
      replace Ln6 := s46 _ _ Ln
      replace L46 := s46 _ _ L4
      have hp6 := hp4.same s46
      have fr : ∀ {b : Addr}, H4 b = none → b ≠ ff := fun hb z => by
        rw [z, LF] at hb
        cases hb
      refine ⟨2, rfl, by decide, by decide, for_range (lo := 0) (n := 2) (fun i σ H' => But ff H6 H' ∧ ∃ z4 z7 : Option V, σ = [some (.ref p), some (.ref ln), some (.ref ff), some (.ref lr), z4, some (.ref lp), some (.ref ls), z7] ∧ H' ff = some (.lst (List.replicate (2 * i) (.bl true))))
        ⟨But.refl ff H6, _, _, rfl, LF6⟩ ?_ ?_⟩
      · rintro i σ H' hi ⟨hb, z4, z7, rfl, hff⟩
        have eE : es[i]? = some (es[i]'(by omega)) := List.getElem?_eq_getElem _
        have eF : fs[i]? = some (fs[i]'(by omega)) := List.getElem?_eq_getElem _
        obtain ⟨u, d, l0, m0, t, r, l, m, q1, q2, q3, q4, q5, q6, q7, q8, q9, q10, _, _⟩ := (PP i _ eE).ex
        obtain ⟨u', d', l0', m0', t', r', l', m', v1, v2, v3, v4, v5, v6, v7, v8, v9, v10, _, _⟩ := (PS i _ eF).ex
        rw [q1] at v1
        cases v1
        rw [q2] at v2
        cases v2
        rw [s5 _ _ q3] at v3
        cases v3
        rw [s5 _ _ q4] at v4
        cases v4
        replace eE : atI (es.map V.ref) (0 + (i : Int)) = some (.ref (es[i]'(by omega))) := at_of (j := i) (by omega) (by rw [List.getElem?_map, eE]; rfl)
        replace eF : atI (fs.map V.ref) (0 + (i : Int)) = some (.ref (fs[i]'(by omega))) := at_of (j := i) (by omega) (by rw [List.getElem?_map, eF]; rfl)
        generalize es[i]'(by omega) = e at q5 eE
        generalize fs[i]'(by omega) = f at v5 eF
        have bD : ∀ {b : Addr} {o : HO}, H6 b = some o → (∀ xs, o ≠ .lst xs) → H' b = some o := fun {b o} h1 h2 => hb b o (fun z => by
          rw [z, LF6] at h1
          exact h2 _ (Option.some.inj h1).symm) h1
        have bE : ∀ {a C : Addr} {xs : List (Str × V)}, ErrAt H6 a C xs → ErrAt H' a C xs := fun ⟨dx, h1, h2⟩ => ⟨dx, bD h1 (fun _ => exo_lst), bD h2 (fun _ => exd_lst)⟩
        -- all at H'
        have Ln' := hb _ _ hlf Ln6
        have L4' := hb _ _ nlr L46
        have LP' := hb _ _ nfp LP
        have LS' := hb _ _ nfs LS
        have d' := bD (s46 _ _ q3) (fun _ z => by cases z)
        have l0' := hb l0 _ (fun z => by
          rw [z, LF] at q4
          cases q4) (s46 _ _ q4)
        have E1 := bE (q5.same s6)
        have r1 := bD (s6 _ _ q6) (fun _ z => by cases z)
        have l1 := hb _ _ (fr q9) (s6 _ _ q7)
        have m1 := hb _ _ (fr q10) (s6 _ _ q8)
        have fr5 : ∀ {b : Addr}, H5 b = none → b ≠ ff := fun hb => fr (Same.free s5 hb)
        have E2 := bE v5
        have r2 := bD v6 (fun _ z => by cases z)
        have l2 := hb _ _ (fr5 v9) v7
        have m2 := hb _ _ (fr5 v10) v8
        -- due
        refine fun dd hdd => ?_
        have s0 : Same H' (upd H' dd (.dK [])) := Same.new (Same.refl _) hdd
        have d0 : (upd H' dd (.dK [])) dd = some (.dK []) := upd_same
        generalize upd H' dd (.dK []) = H7 at s0 d0
        refine ⟨_, rfl, ln, _, _, _, rfl, rfl, SqL.of (s0 _ _ Ln'), (show atI ([u0, u1, u2, u3].map V.str) 2 = some (.str u2) from rfl), ?_⟩
        refine ⟨_, rfl, _, rfl, lr, _, _, _, rfl, rfl, SqL.of (s0 _ _ L4'), q2, ?_⟩
        refine ⟨_, rfl, ln, _, _, _, rfl, rfl, SqL.of (s0 _ _ Ln'), (show atI ([u0, u1, u2, u3].map V.str) 2 = some (.str u2) from rfl), ?_⟩
        refine ⟨d, _, rfl, two_get (s0 _ _ d'), l0, _, _, _, rfl, rfl, SqL.of (s0 _ _ l0'), (show atI [V.ref t] 0 = some (.ref t) from rfl), ?_⟩
        refine ⟨(by show 1 ≤ sizeLine; decide), fun x H8 n8 s8 L8 => ?_⟩
        have hffx := s0 _ _ hff
        refine ⟨_, rfl, ln, _, _, _, rfl, rfl, SqL.of (s8 _ _ (s0 _ _ Ln')), (show atI ([u0, u1, u2, u3].map V.str) 3 = some (.str u3) from rfl), ?_⟩
        refine ⟨Nat.zero_le _, fun y H9 n9 s9 L9 => ?_⟩
        refine ⟨s9 _ _ (s8 _ _ d0), [(Sum.inr u2, .ref x), (Sum.inr u3, .ref y)], rfl, (by show 2 ≤ 15; decide), ?_⟩
        rw [two_merge n23]
        have d9 := s9 _ _ (s8 _ _ d0)
        have sX : Same H' (upd H9 dd (.dK (two u2 u3 (.ref x) (.ref y)))) := Same.own (s0.trans (s8.trans s9)) hdd
        have dX : (upd H9 dd (.dK (two u2 u3 (.ref x) (.ref y)))) dd = some (.dK (two u2 u3 (.ref x) (.ref y))) := upd_same
        have xX : (upd H9 dd (.dK (two u2 u3 (.ref x) (.ref y)))) x = some (.lst [.ref t]) := by
          rw [upd_ne (ne_of (s9 _ _ L8) d9 (fun z => by cases z))]
          exact s9 _ _ L8
        have yX : (upd H9 dd (.dK (two u2 u3 (.ref x) (.ref y)))) y = some (.lst []) := by
          rw [upd_ne (ne_of L9 d9 (fun z => by cases z))]
          exact L9
        generalize upd H9 dd (.dK (two u2 u3 (.ref x) (.ref y))) = HA at sX dX xX yX
        have same2 : ∀ {Hc : Hp} {r l m : Addr}, Hc dd = some (.dK (two u2 u3 (.ref x) (.ref y))) → Hc x = some (.lst [.ref t]) → Hc y = some (.lst []) → Hc r = some (.dK (two u2 u3 (.ref l) (.ref m))) → Hc l = some (.lst [.ref t]) → Hc m = some (.lst []) → EqR K Hc (EqV K Hc 3) (.ref r) (.ref dd) := fun {Hc r l m} sd sx sy h1 h2 h3 =>
          .inr ⟨r, dd, _, _, rfl, rfl, h1, sd, rfl, fun w hw => by
            have hw' : w = (Sum.inr u2, .ref l) ∨ w = (Sum.inr u3, .ref m) := by simpa [two] using hw
            rcases hw' with z | z
            · rw [z]
              exact ⟨_, two_val1, .inr (.inr (.inl ⟨l, x, _, _, rfl, rfl, SqL.of h2, SqL.of sx, .cons (.inr (.inl ⟨t, rfl, rfl⟩)) .nil⟩))⟩
            · rw [z]
              exact ⟨_, two_val2 n23, .inr (.inr (.inl ⟨m, y, _, _, rfl, rfl, SqL.of h3, SqL.of sy, .nil⟩))⟩⟩
        have nxf : x ≠ ff := fun z => by
          rw [z, hffx] at n8
          cases n8
        have nyf : y ≠ ff := fun z => by
          rw [z, s8 _ _ hffx] at n9
          cases n9
        replace hff := sX _ _ hff
        replace Ln' := sX _ _ Ln'
        replace LP' := sX _ _ LP'
        replace LS' := sX _ _ LS'
        replace E1 := E1.same sX
        replace E2 := E2.same sX
        replace r1 := sX _ _ r1
        replace r2 := sX _ _ r2
        replace l1 := sX _ _ l1
        replace l2 := sX _ _ l2
        replace m1 := sX _ _ m1
        replace m2 := sX _ _ m2
        have hbA : But ff H6 HA := hb.trans (But.of sX)
        clear s0 d0 s8 L8 s9 L9 d9 sX hdd d' l0' L4' hb bD bE
        obtain ⟨dx, w1, w2⟩ := E1
        refine ⟨_, rfl, .inl ⟨rfl, _, SqL.of hff⟩, _, rfl, _, rfl, lp, _, _, _, rfl, rfl, SqL.of LP', eE, e, T.x_NotAlike.C, dx, _, _, rfl, w1, w2, T.x_NotAlike.xfc, T.f_NotAlike_init_name, lookup2 _ _ _ _ (by decide +kernel), ?_⟩
        refine ⟨_, rfl, _, rfl, ln, _, _, _, rfl, rfl, SqL.of Ln', q1, rfl, _, rfl, ?_⟩
        rw [decide_eq_true (rfl : V.str u = V.str u)]
        refine iteT ?_
        refine ⟨_, rfl, _, rfl, lp, _, _, _, rfl, rfl, SqL.of LP', eE, e, T.x_NotAlike.C, dx, _, _, rfl, w1, w2, T.x_NotAlike.xfc, T.f_NotAlike_init_tables, lookup1' _ _ _, _, rfl, ?_⟩
        refine ⟨3, by decide, same2 dX xX yX r1 l1 m1, _, rfl, iteT ?_⟩
        refine ⟨_, rfl, _, rfl, lp, _, _, _, rfl, rfl, SqL.of LP', eE, e, _, _, T.x_NotAlike, rfl, .inl ⟨dx, _, w1, w2⟩, .inl rfl, fun rr K1 _ t1 er1 => ?_⟩
        rw [idx_NotAlike] at er1
        refine ⟨(by show 1 ≤ sizeLine; decide), fun rr2 K2 _ t2 er2 => ?_⟩
        refine ⟨_, _, .lst (SqL.of (t2 _ _ er1)) (dp_ints [9]), .lst (SqL.of er2) (dp_ints [9]), by decide +kernel, by decide +kernel, ?_⟩
        rw [show PyData.eqv (.list ([9].map PyData.int)) (.list ([9].map PyData.int)) = true from by decide +kernel]
        have sK : Same HA K2 := t1.trans t2
        refine ⟨ff, _, _, rfl, rfl, sK _ _ hff, by rw [List.length_replicate]; exact Nat.lt_of_lt_of_le (show 2 * i + 0 < 100 by omega) (by decide), fun K3 t3 er3 => ?_⟩
        have hb3 : But ff HA K3 := (But.of sK).trans t3
        replace hbA := hbA.trans hb3
        have kd : ∀ {b : Addr} {o : HO}, HA b = some o → (∀ xs, o ≠ .lst xs) → K3 b = some o := fun {b o} h1 h2 => hb3 b o (fun z => by
          rw [z, hff] at h1
          exact h2 _ (Option.some.inj h1).symm) h1
        replace E2 : ErrAt K3 f T.x_Rests.C [("tables", .ref r'), ("name", .str u)] := by
          obtain ⟨dx, h1, h2⟩ := E2
          exact ⟨dx, kd h1 (fun _ => exo_lst), kd h2 (fun _ => exd_lst)⟩
        replace Ln' := hb3 _ _ hlf Ln'
        replace LS' := hb3 _ _ nfs LS'
        replace dX := kd dX (fun _ z => by cases z)
        replace xX := hb3 _ _ nxf xX
        replace yX := hb3 _ _ nyf yX
        replace r2 := kd r2 (fun _ z => by cases z)
        replace l2 := hb3 _ _ (fr5 v9) l2
        replace m2 := hb3 _ _ (fr5 v10) m2
        replace hff : K3 ff = some (.lst (List.replicate (2 * i + 1) (.bl true))) := by rw [er3, ← List.replicate_succ']
        clear kd hb3 sK t1 t2 t3 er1 er2 er3 w1 w2 dx r1 l1 m1 LP'
        obtain ⟨dx, w1, w2⟩ := E2
        refine ⟨_, rfl, .inl ⟨rfl, _, SqL.of hff⟩, _, rfl, _, rfl, ls, _, _, _, rfl, rfl, SqL.of LS', eF, f, T.x_Rests.C, dx, _, _, rfl, w1, w2, T.x_Rests.xfc, T.f_Rests_init_name, lookup2 _ _ _ _ (by decide +kernel), ?_⟩
        refine ⟨_, rfl, _, rfl, ln, _, _, _, rfl, rfl, SqL.of Ln', q1, rfl, _, rfl, ?_⟩
        rw [decide_eq_true (rfl : V.str u = V.str u)]
        refine iteT ?_
        refine ⟨_, rfl, _, rfl, ls, _, _, _, rfl, rfl, SqL.of LS', eF, f, T.x_Rests.C, dx, _, _, rfl, w1, w2, T.x_Rests.xfc, T.f_Rests_init_tables, lookup1' _ _ _, _, rfl, ?_⟩
        refine ⟨3, by decide, same2 dX xX yX r2 l2 m2, _, rfl, iteT ?_⟩
        refine ⟨_, rfl, _, rfl, ls, _, _, _, rfl, rfl, SqL.of LS', eF, f, _, _, T.x_Rests, rfl, .inl ⟨dx, _, w1, w2⟩, .inl rfl, fun rr K5 _ t1 er1 => ?_⟩
        rw [idx_Rests] at er1
        refine ⟨(by show 1 ≤ sizeLine; decide), fun rr2 K6 _ t2 er2 => ?_⟩
        refine ⟨_, _, .lst (SqL.of (t2 _ _ er1)) (dp_ints [10]), .lst (SqL.of er2) (dp_ints [10]), by decide +kernel, by decide +kernel, ?_⟩
        rw [show PyData.eqv (.list ([10].map PyData.int)) (.list ([10].map PyData.int)) = true from by decide +kernel]
        have sK : Same K3 K6 := t1.trans t2
        refine ⟨ff, _, _, rfl, rfl, sK _ _ hff, by rw [List.length_replicate]; exact Nat.lt_of_lt_of_le (show 2 * i + 1 < 100 by omega) (by decide), fun K7 t3 er3 => ?_⟩
        have hb3 : But ff K3 K7 := (But.of sK).trans t3
        replace hbA := hbA.trans hb3
        exact ⟨hbA, _, _, rfl, by rw [er3, ← List.replicate_succ', show 2 * i + 1 + 1 = 2 * (i + 1) from by omega]⟩
      · rintro σ H' ⟨hb, z4, z7, rfl, hff⟩
        refine ⟨_, rfl, fun e1 K1 _ t1 h1 => ?_⟩
        refine ⟨e1, _, _, T.x_OtherTables, rfl, h1, .inl rfl, fun r K2 _ t2 er => ?_⟩
        rw [idx_OtherTables] at er
        refine ⟨(by show 1 ≤ sizeLine; decide), fun r2 K3 _ t3 er2 => ?_⟩
        refine ⟨_, _, .lst (SqL.of (t3 _ _ er)) (dp_ints [3]), .lst (SqL.of er2) (dp_ints [3]), by decide +kernel, by decide +kernel, ?_⟩
        rw [show PyData.eqv (.list ([3].map PyData.int)) (.list ([3].map PyData.int)) = true from by decide +kernel]
        refine fun e4 K4 _ t4 h4 => ?_
        refine ⟨e4, _, _, T.x_NothingToUndo, rfl, h4, .inl rfl, fun r5 K5 _ t5 er5 => ?_⟩
        rw [idx_NothingToUndo] at er5
        refine ⟨(by show 1 ≤ sizeLine; decide), fun r6 K6 _ t6 er6 => ?_⟩
        refine ⟨_, _, .lst (SqL.of (t6 _ _ er5)) (dp_ints [12]), .lst (SqL.of er6) (dp_ints [12]), by decide +kernel, by decide +kernel, ?_⟩
        rw [show PyData.eqv (.list ([12].map PyData.int)) (.list ([12].map PyData.int)) = true from by decide +kernel]
        refine ⟨(by show 2 ≤ sizeLine; decide), fun r7 K7 _ t7 er7 => ?_⟩
        have sK : Same H' K7 := (((((t1.trans t2).trans t3).trans t4).trans t5).trans t6).trans t7
        refine ⟨ff, r7, _, _, rfl, rfl, sK _ _ hff, er7, by decide, fun fg K8 _ t8 er8 => ?_⟩
        refine ⟨_, rfl, fg, _, rfl, .inl (SqL.of er8), rfl, by decide +kernel, ?_⟩
        refine ⟨_, rfl, ?_⟩
        rw [show (!inV (V.bl false) (List.replicate (2 * 2) (V.bl true) ++ [V.bl true, V.bl true])) = true from by decide +kernel]
        refine iteT ?_
        refine fun e9 K9 _ t9 h9 => ?_
        refine ⟨e9, _, _, T.x_LookError, rfl, h9, .inr ⟨rfl, rfl⟩, fun ra KA _ ta era => ?_⟩
        rw [idx_LookError] at era
        refine ⟨Nat.zero_le _, fun rb KB _ tb erb => ?_⟩
        refine ⟨ra, rb, _, rfl, rfl, SqL.of (tb _ _ era), SqL.of erb, ?_⟩
        have hpK : Pen H' p c ns (n + 16 + 4 * 2) := by
          obtain ⟨⟨t, l, q1, q2⟩, q3, q4⟩ := hp6
          have n1 : p ≠ ff := fun z => by
            rw [z, LF6] at q1
            cases q1
          have n2 : c ≠ ff := fun z => ncf z
          exact ⟨⟨t, l, hb _ _ n1 q1, q2⟩, hb _ _ n2 q3, q4⟩
        exact k KB ((hpK.same ((((sK.trans t8).trans t9).trans ta).trans tb)).mono (by omega))
end
end L2.Pf
set_option maxHeartbeats 4000000
namespace L2.Pf
open PySem PySem.Spec PyProof.Rows L2.Ev
section
variable {P : Program} {w : World} {K : PySem.W.Frag} {mg : Str → Option Value} {base : Heap}
def sp_law (K : PySem.W.Frag) : Sp := fun vs H Q _ => ∃ (a : Addr) (ns : List Int), vs = [.ref a] ∧ SqL K H a (ns.map V.int) ∧ ns.length ≤ 63 ∧ ∀ H', Q (.bl true) H'
theorem sp_law_ask {K : PySem.W.Frag} {H : Hp} {a : Addr} {ns : List Int} {E : XK} (hl : ns.length ≤ 63) (_ : Only H) (hS : SqL K H a (ns.map V.int)) : sp_law K [.ref a] H (fun v _ => v = .bl true) E :=
  ⟨a, ns, rfl, hS, hl, fun _ => rfl⟩
theorem ok_law (T : TX K mg) : FnOk P w K mg base CX0 5 T.a_law T.fd_law p_law (sp_law K) := by
  refine T.F_law.ok sc_law (fun vs H Q E h => ?_) (fun cdv A outer s H vs Q E hr h => ?_)
  · obtain ⟨a, ns, rfl, _⟩ := h
    rfl
  · obtain ⟨a, ns, rfl, hS, hl, k⟩ := h
    refine ⟨_, (pss_cons (ps_set (i := 1) sc_law.nd rfl (Or.inl rfl) (pe_call (ok_begun_pen T) (hr.mono (by decide)) rfl T.g_begun_pen T.F_begun_pen.kp T.b_begun_pen .nil pass0 (pa_cons (pv 0) pa_nil)))
  (pss_cons (ps_for PassesOwn.never rfl (pi_range1 (by rfl) T.z_range (pa_cons pe_int pa_nil)) (pg_name (i := 2) sc_law.nd rfl (Or.inl rfl)) (pss_one (ps_if (PW.pt (pw_or (pt_not (pt_val (pe_call (ok_numbered T) (hr.mono (by decide)) rfl T.g_numbered T.F_numbered.kp T.b_numbered .nil pass0 (pa_cons (pv 1) pa_nil)))) (pw_or (pt_not (pt_val (pe_call (ok_texted T) (hr.mono (by decide)) rfl T.g_texted T.F_texted.kp T.b_texted .nil pass0 (pa_cons (pv 1) pa_nil)))) (pw_or1 (pt_not (pt_val (pe_call (ok_shown T) (hr.mono (by decide)) rfl T.g_shown T.F_shown.kp T.b_shown .nil pass0 (pa_cons (pv 1) pa_nil)))))))) (pss_one (ps_ret pe_bl)) pss_nil)))
  (pss_one (ps_ret pe_bl)))), ?_⟩
    refine ⟨_, rfl, a, ns, rfl, hS, hl, fun p c H1 _ _ _ hp => ?_⟩
    refine ⟨3, rfl, by decide, by decide, for_range (lo := 0) (n := 3) (fun i σ H' => Pen H' p c ns (3000 * i) ∧ ∃ z, σ = [some (.ref a), some (.ref p), z]) ⟨hp, _, rfl⟩ ?_ ?_⟩
    · rintro i σ H' hi ⟨hp', z, rfl⟩
      refine ⟨_, rfl, p, c, ns, _, rfl, hp', by omega, fun H2 hp2 => ⟨_, rfl, ?_⟩⟩
      refine iteF ⟨_, rfl, p, c, ns, _, rfl, hp2, by omega, fun H3 hp3 => ⟨_, rfl, ?_⟩⟩
      refine iteF ⟨_, rfl, p, c, ns, _, rfl, hp3, by omega, fun H4 hp4 => ⟨_, rfl, ?_⟩⟩
      exact iteF ⟨hp4.mono (by omega), _, rfl⟩
    · rintro σ H' ⟨_, z, rfl⟩
      exact k H'
end
def mk_TX {K : PySem.W.Frag} {h : Heap} {mg : Str → Option Value} (X : K.In h) (G : h.Ns mainGlobals mg)
    {C_LookError : Addr} {q_LookError : Str} {N_LookError : Addr} {bs_LookError : List Value} {sn_LookError : List Str} {su_LookError : List Value} {ab_LookError : Bool} {co_LookError : Option Bool} {dd_LookError : Option Addr} {k0_LookError k1_LookError k2_LookError k3_LookError k5_LookError : Option Value}
    {C_BadTables : Addr} {q_BadTables : Str} {N_BadTables : Addr} {bs_BadTables : List Value} {sn_BadTables : List Str} {su_BadTables : List Value} {ab_BadTables : Bool} {co_BadTables : Option Bool} {dd_BadTables : Option Addr} {k0_BadTables k1_BadTables k2_BadTables k3_BadTables k5_BadTables : Option Value}
    {C_BadFact : Addr} {q_BadFact : Str} {N_BadFact : Addr} {bs_BadFact : List Value} {sn_BadFact : List Str} {su_BadFact : List Value} {ab_BadFact : Bool} {co_BadFact : Option Bool} {dd_BadFact : Option Addr} {k0_BadFact k1_BadFact k2_BadFact k3_BadFact k5_BadFact : Option Value}
    {C_BadProgram : Addr} {q_BadProgram : Str} {N_BadProgram : Addr} {bs_BadProgram : List Value} {sn_BadProgram : List Str} {su_BadProgram : List Value} {ab_BadProgram : Bool} {co_BadProgram : Option Bool} {dd_BadProgram : Option Addr} {k0_BadProgram k1_BadProgram k2_BadProgram k3_BadProgram k5_BadProgram : Option Value}
    {C_OtherTables : Addr} {q_OtherTables : Str} {N_OtherTables : Addr} {bs_OtherTables : List Value} {sn_OtherTables : List Str} {su_OtherTables : List Value} {ab_OtherTables : Bool} {co_OtherTables : Option Bool} {dd_OtherTables : Option Addr} {k0_OtherTables k1_OtherTables k2_OtherTables k3_OtherTables k5_OtherTables : Option Value}
    {C_NoLine : Addr} {q_NoLine : Str} {N_NoLine : Addr} {bs_NoLine : List Value} {sn_NoLine : List Str} {su_NoLine : List Value} {ab_NoLine : Bool} {co_NoLine : Option Bool} {dd_NoLine : Option Addr} {k0_NoLine k1_NoLine k2_NoLine k3_NoLine k5_NoLine : Option Value}
    {C_NoKey : Addr} {q_NoKey : Str} {N_NoKey : Addr} {bs_NoKey : List Value} {sn_NoKey : List Str} {su_NoKey : List Value} {ab_NoKey : Bool} {co_NoKey : Option Bool} {dd_NoKey : Option Addr} {k0_NoKey k1_NoKey k2_NoKey k3_NoKey k5_NoKey : Option Value}
    {C_NoName : Addr} {q_NoName : Str} {N_NoName : Addr} {bs_NoName : List Value} {sn_NoName : List Str} {su_NoName : List Value} {ab_NoName : Bool} {co_NoName : Option Bool} {dd_NoName : Option Addr} {k0_NoName k1_NoName k2_NoName k3_NoName k5_NoName : Option Value}
    {C_BadName : Addr} {q_BadName : Str} {N_BadName : Addr} {bs_BadName : List Value} {sn_BadName : List Str} {su_BadName : List Value} {ab_BadName : Bool} {co_BadName : Option Bool} {dd_BadName : Option Addr} {k0_BadName k1_BadName k2_BadName k3_BadName k5_BadName : Option Value}
    {C_Taken : Addr} {q_Taken : Str} {N_Taken : Addr} {bs_Taken : List Value} {sn_Taken : List Str} {su_Taken : List Value} {ab_Taken : Bool} {co_Taken : Option Bool} {dd_Taken : Option Addr} {k0_Taken k1_Taken k2_Taken k3_Taken k5_Taken : Option Value}
    {C_NotAlike : Addr} {q_NotAlike : Str} {N_NotAlike : Addr} {bs_NotAlike : List Value} {sn_NotAlike : List Str} {su_NotAlike : List Value} {ab_NotAlike : Bool} {co_NotAlike : Option Bool} {dd_NotAlike : Option Addr} {k0_NotAlike k1_NotAlike k2_NotAlike k3_NotAlike k5_NotAlike : Option Value}
    {C_Rests : Addr} {q_Rests : Str} {N_Rests : Addr} {bs_Rests : List Value} {sn_Rests : List Str} {su_Rests : List Value} {ab_Rests : Bool} {co_Rests : Option Bool} {dd_Rests : Option Addr} {k0_Rests k1_Rests k2_Rests k3_Rests k5_Rests : Option Value}
    {C_BrokenFact : Addr} {q_BrokenFact : Str} {N_BrokenFact : Addr} {bs_BrokenFact : List Value} {sn_BrokenFact : List Str} {su_BrokenFact : List Value} {ab_BrokenFact : Bool} {co_BrokenFact : Option Bool} {dd_BrokenFact : Option Addr} {k0_BrokenFact k1_BrokenFact k2_BrokenFact k3_BrokenFact k5_BrokenFact : Option Value}
    {C_NothingToUndo : Addr} {q_NothingToUndo : Str} {N_NothingToUndo : Addr} {bs_NothingToUndo : List Value} {sn_NothingToUndo : List Str} {su_NothingToUndo : List Value} {ab_NothingToUndo : Bool} {co_NothingToUndo : Option Bool} {dd_NothingToUndo : Option Addr} {k0_NothingToUndo k1_NothingToUndo k2_NothingToUndo k3_NothingToUndo k5_NothingToUndo : Option Value}
    {f_BadTables_init : Addr} {od_BadTables_init an_BadTables_init : Option Addr} {sl_BadTables_init : Array (Option Value)} {oc_BadTables_init kV_BadTables_init dc_BadTables_init pm_BadTables_init cd_BadTables_init ct_BadTables_init : Value}
    {f_BadFact_init : Addr} {od_BadFact_init an_BadFact_init : Option Addr} {sl_BadFact_init : Array (Option Value)} {oc_BadFact_init kV_BadFact_init dc_BadFact_init pm_BadFact_init cd_BadFact_init ct_BadFact_init : Value}
    {f_BadProgram_init : Addr} {od_BadProgram_init an_BadProgram_init : Option Addr} {sl_BadProgram_init : Array (Option Value)} {oc_BadProgram_init kV_BadProgram_init dc_BadProgram_init pm_BadProgram_init cd_BadProgram_init ct_BadProgram_init : Value}
    {f_NoLine_init : Addr} {od_NoLine_init an_NoLine_init : Option Addr} {sl_NoLine_init : Array (Option Value)} {oc_NoLine_init kV_NoLine_init dc_NoLine_init pm_NoLine_init cd_NoLine_init ct_NoLine_init : Value}
    {f_NoKey_init : Addr} {od_NoKey_init an_NoKey_init : Option Addr} {sl_NoKey_init : Array (Option Value)} {oc_NoKey_init kV_NoKey_init dc_NoKey_init pm_NoKey_init cd_NoKey_init ct_NoKey_init : Value}
    {f_NoName_init : Addr} {od_NoName_init an_NoName_init : Option Addr} {sl_NoName_init : Array (Option Value)} {oc_NoName_init kV_NoName_init dc_NoName_init pm_NoName_init cd_NoName_init ct_NoName_init : Value}
    {f_BadName_init : Addr} {od_BadName_init an_BadName_init : Option Addr} {sl_BadName_init : Array (Option Value)} {oc_BadName_init kV_BadName_init dc_BadName_init pm_BadName_init cd_BadName_init ct_BadName_init : Value}
    {f_Taken_init : Addr} {od_Taken_init an_Taken_init : Option Addr} {sl_Taken_init : Array (Option Value)} {oc_Taken_init kV_Taken_init dc_Taken_init pm_Taken_init cd_Taken_init ct_Taken_init : Value}
    {f_NotAlike_init : Addr} {od_NotAlike_init an_NotAlike_init : Option Addr} {sl_NotAlike_init : Array (Option Value)} {oc_NotAlike_init kV_NotAlike_init dc_NotAlike_init pm_NotAlike_init cd_NotAlike_init ct_NotAlike_init : Value}
    {f_Rests_init : Addr} {od_Rests_init an_Rests_init : Option Addr} {sl_Rests_init : Array (Option Value)} {oc_Rests_init kV_Rests_init dc_Rests_init pm_Rests_init cd_Rests_init ct_Rests_init : Value}
    {f_BrokenFact_init : Addr} {od_BrokenFact_init an_BrokenFact_init : Option Addr} {sl_BrokenFact_init : Array (Option Value)} {oc_BrokenFact_init kV_BrokenFact_init dc_BrokenFact_init pm_BrokenFact_init cd_BrokenFact_init ct_BrokenFact_init : Value}
    {f_copied : Addr} {od_copied an_copied : Option Addr} {sl_copied : Array (Option Value)} {oc_copied kV_copied dc_copied pm_copied cd_copied ct_copied : Value}
    {f_begun_pen : Addr} {od_begun_pen an_begun_pen : Option Addr} {sl_begun_pen : Array (Option Value)} {oc_begun_pen kV_begun_pen dc_begun_pen pm_begun_pen cd_begun_pen ct_begun_pen : Value}
    {f_draw : Addr} {od_draw an_draw : Option Addr} {sl_draw : Array (Option Value)} {oc_draw kV_draw dc_draw pm_draw cd_draw ct_draw : Value}
    {f_shuffled : Addr} {od_shuffled an_shuffled : Option Addr} {sl_shuffled : Array (Option Value)} {oc_shuffled kV_shuffled dc_shuffled pm_shuffled cd_shuffled ct_shuffled : Value}
    {f_new_names : Addr} {od_new_names an_new_names : Option Addr} {sl_new_names : Array (Option Value)} {oc_new_names kV_new_names dc_new_names pm_new_names cd_new_names ct_new_names : Value}
    {f_new_integer : Addr} {od_new_integer an_new_integer : Option Addr} {sl_new_integer : Array (Option Value)} {oc_new_integer kV_new_integer dc_new_integer pm_new_integer cd_new_integer ct_new_integer : Value}
    {f_classes : Addr} {od_classes an_classes : Option Addr} {sl_classes : Array (Option Value)} {oc_classes kV_classes dc_classes pm_classes cd_classes ct_classes : Value}
    {f_numbered : Addr} {od_numbered an_numbered : Option Addr} {sl_numbered : Array (Option Value)} {oc_numbered kV_numbered dc_numbered pm_numbered cd_numbered ct_numbered : Value}
    {f_texted : Addr} {od_texted an_texted : Option Addr} {sl_texted : Array (Option Value)} {oc_texted kV_texted dc_texted pm_texted cd_texted ct_texted : Value}
    {f_shown : Addr} {od_shown an_shown : Option Addr} {sl_shown : Array (Option Value)} {oc_shown kV_shown dc_shown pm_shown cd_shown ct_shown : Value}
    {f_law : Addr} {od_law an_law : Option Addr} {sl_law : Array (Option Value)} {oc_law kV_law dc_law pm_law cd_law ct_law : Value}
    (z_isinstance : PySem.W.nsIn K mainGlobals "isinstance" = some none)
    (z_dict : PySem.W.nsIn K mainGlobals "dict" = some none)
    (z_list : PySem.W.nsIn K mainGlobals "list" = some none)
    (z_int : PySem.W.nsIn K mainGlobals "int" = some none)
    (z_len : PySem.W.nsIn K mainGlobals "len" = some none)
    (z_abs : PySem.W.nsIn K mainGlobals "abs" = some none)
    (z_ValueError : PySem.W.nsIn K mainGlobals "ValueError" = some none)
    (z_range : PySem.W.nsIn K mainGlobals "range" = some none)
    (gn : PySem.W.specialIn K (.builtin "object.__class__") "__get__" = some (some (.builtin "getset_descriptor.__get__")))
    (gt : PySem.W.takesIn K (.builtin "object.__class__") = some true)
    (xa_LookError : PySem.W.nsIn K mainGlobals "LookError" = some (some (.ref C_LookError)))
    (xl_LookError : K.lookup C_LookError = some (excClassObj "LookError" q_LookError C_LookError N_LookError bs_LookError [.type "ValueError", .type "Exception", .type "BaseException", .type "object"] true sn_LookError su_LookError ab_LookError co_LookError dd_LookError k0_LookError k1_LookError k2_LookError k3_LookError k5_LookError "ValueError.__new__"))
    (xs_LookError : PySem.W.findIn K (.ref C_LookError) "__setattr__" = some (some (.builtin "object.__setattr__")))
    (xg_LookError : PySem.W.findIn K (.ref C_LookError) "__getattribute__" = some (some (.builtin "BaseException.__getattribute__")))
    (xt_LookError : PySem.W.findIn K (.ref C_LookError) "__getattr__" = some none)
    (xc_LookError : PySem.W.findIn K (.ref C_LookError) "__class__" = some (some (.builtin "object.__class__")))
    (xk_LookError : PySem.W.keepIn K (.ref C_LookError) = true)
    (xe_LookError : PySem.W.excIn K C_LookError [.type "ValueError", .type "Exception", .type "BaseException", .type "object"] "ValueError.__new__" = true)
    (xa_BadTables : PySem.W.nsIn K mainGlobals "BadTables" = some (some (.ref C_BadTables)))
    (xl_BadTables : K.lookup C_BadTables = some (excClassObj "BadTables" q_BadTables C_BadTables N_BadTables bs_BadTables [.ref C_LookError, .type "ValueError", .type "Exception", .type "BaseException", .type "object"] true sn_BadTables su_BadTables ab_BadTables co_BadTables dd_BadTables k0_BadTables k1_BadTables k2_BadTables k3_BadTables k5_BadTables "ValueError.__new__"))
    (xs_BadTables : PySem.W.findIn K (.ref C_BadTables) "__setattr__" = some (some (.builtin "object.__setattr__")))
    (xg_BadTables : PySem.W.findIn K (.ref C_BadTables) "__getattribute__" = some (some (.builtin "BaseException.__getattribute__")))
    (xt_BadTables : PySem.W.findIn K (.ref C_BadTables) "__getattr__" = some none)
    (xc_BadTables : PySem.W.findIn K (.ref C_BadTables) "__class__" = some (some (.builtin "object.__class__")))
    (xk_BadTables : PySem.W.keepIn K (.ref C_BadTables) = true)
    (xa_BadFact : PySem.W.nsIn K mainGlobals "BadFact" = some (some (.ref C_BadFact)))
    (xl_BadFact : K.lookup C_BadFact = some (excClassObj "BadFact" q_BadFact C_BadFact N_BadFact bs_BadFact [.ref C_LookError, .type "ValueError", .type "Exception", .type "BaseException", .type "object"] true sn_BadFact su_BadFact ab_BadFact co_BadFact dd_BadFact k0_BadFact k1_BadFact k2_BadFact k3_BadFact k5_BadFact "ValueError.__new__"))
    (xs_BadFact : PySem.W.findIn K (.ref C_BadFact) "__setattr__" = some (some (.builtin "object.__setattr__")))
    (xg_BadFact : PySem.W.findIn K (.ref C_BadFact) "__getattribute__" = some (some (.builtin "BaseException.__getattribute__")))
    (xt_BadFact : PySem.W.findIn K (.ref C_BadFact) "__getattr__" = some none)
    (xc_BadFact : PySem.W.findIn K (.ref C_BadFact) "__class__" = some (some (.builtin "object.__class__")))
    (xk_BadFact : PySem.W.keepIn K (.ref C_BadFact) = true)
    (xa_BadProgram : PySem.W.nsIn K mainGlobals "BadProgram" = some (some (.ref C_BadProgram)))
    (xl_BadProgram : K.lookup C_BadProgram = some (excClassObj "BadProgram" q_BadProgram C_BadProgram N_BadProgram bs_BadProgram [.ref C_LookError, .type "ValueError", .type "Exception", .type "BaseException", .type "object"] true sn_BadProgram su_BadProgram ab_BadProgram co_BadProgram dd_BadProgram k0_BadProgram k1_BadProgram k2_BadProgram k3_BadProgram k5_BadProgram "ValueError.__new__"))
    (xs_BadProgram : PySem.W.findIn K (.ref C_BadProgram) "__setattr__" = some (some (.builtin "object.__setattr__")))
    (xg_BadProgram : PySem.W.findIn K (.ref C_BadProgram) "__getattribute__" = some (some (.builtin "BaseException.__getattribute__")))
    (xt_BadProgram : PySem.W.findIn K (.ref C_BadProgram) "__getattr__" = some none)
    (xc_BadProgram : PySem.W.findIn K (.ref C_BadProgram) "__class__" = some (some (.builtin "object.__class__")))
    (xk_BadProgram : PySem.W.keepIn K (.ref C_BadProgram) = true)
    (xa_OtherTables : PySem.W.nsIn K mainGlobals "OtherTables" = some (some (.ref C_OtherTables)))
    (xl_OtherTables : K.lookup C_OtherTables = some (excClassObj "OtherTables" q_OtherTables C_OtherTables N_OtherTables bs_OtherTables [.ref C_LookError, .type "ValueError", .type "Exception", .type "BaseException", .type "object"] true sn_OtherTables su_OtherTables ab_OtherTables co_OtherTables dd_OtherTables k0_OtherTables k1_OtherTables k2_OtherTables k3_OtherTables k5_OtherTables "ValueError.__new__"))
    (xs_OtherTables : PySem.W.findIn K (.ref C_OtherTables) "__setattr__" = some (some (.builtin "object.__setattr__")))
    (xg_OtherTables : PySem.W.findIn K (.ref C_OtherTables) "__getattribute__" = some (some (.builtin "BaseException.__getattribute__")))
    (xt_OtherTables : PySem.W.findIn K (.ref C_OtherTables) "__getattr__" = some none)
    (xc_OtherTables : PySem.W.findIn K (.ref C_OtherTables) "__class__" = some (some (.builtin "object.__class__")))
    (xk_OtherTables : PySem.W.keepIn K (.ref C_OtherTables) = true)
    (xe_OtherTables : PySem.W.excIn K C_OtherTables [.type "ValueError", .type "Exception", .type "BaseException", .type "object"] "ValueError.__new__" = true)
    (xa_NoLine : PySem.W.nsIn K mainGlobals "NoLine" = some (some (.ref C_NoLine)))
    (xl_NoLine : K.lookup C_NoLine = some (excClassObj "NoLine" q_NoLine C_NoLine N_NoLine bs_NoLine [.ref C_LookError, .type "ValueError", .type "Exception", .type "BaseException", .type "object"] true sn_NoLine su_NoLine ab_NoLine co_NoLine dd_NoLine k0_NoLine k1_NoLine k2_NoLine k3_NoLine k5_NoLine "ValueError.__new__"))
    (xs_NoLine : PySem.W.findIn K (.ref C_NoLine) "__setattr__" = some (some (.builtin "object.__setattr__")))
    (xg_NoLine : PySem.W.findIn K (.ref C_NoLine) "__getattribute__" = some (some (.builtin "BaseException.__getattribute__")))
    (xt_NoLine : PySem.W.findIn K (.ref C_NoLine) "__getattr__" = some none)
    (xc_NoLine : PySem.W.findIn K (.ref C_NoLine) "__class__" = some (some (.builtin "object.__class__")))
    (xk_NoLine : PySem.W.keepIn K (.ref C_NoLine) = true)
    (xa_NoKey : PySem.W.nsIn K mainGlobals "NoKey" = some (some (.ref C_NoKey)))
    (xl_NoKey : K.lookup C_NoKey = some (excClassObj "NoKey" q_NoKey C_NoKey N_NoKey bs_NoKey [.ref C_LookError, .type "ValueError", .type "Exception", .type "BaseException", .type "object"] true sn_NoKey su_NoKey ab_NoKey co_NoKey dd_NoKey k0_NoKey k1_NoKey k2_NoKey k3_NoKey k5_NoKey "ValueError.__new__"))
    (xs_NoKey : PySem.W.findIn K (.ref C_NoKey) "__setattr__" = some (some (.builtin "object.__setattr__")))
    (xg_NoKey : PySem.W.findIn K (.ref C_NoKey) "__getattribute__" = some (some (.builtin "BaseException.__getattribute__")))
    (xt_NoKey : PySem.W.findIn K (.ref C_NoKey) "__getattr__" = some none)
    (xc_NoKey : PySem.W.findIn K (.ref C_NoKey) "__class__" = some (some (.builtin "object.__class__")))
    (xk_NoKey : PySem.W.keepIn K (.ref C_NoKey) = true)
    (xa_NoName : PySem.W.nsIn K mainGlobals "NoName" = some (some (.ref C_NoName)))
    (xl_NoName : K.lookup C_NoName = some (excClassObj "NoName" q_NoName C_NoName N_NoName bs_NoName [.ref C_LookError, .type "ValueError", .type "Exception", .type "BaseException", .type "object"] true sn_NoName su_NoName ab_NoName co_NoName dd_NoName k0_NoName k1_NoName k2_NoName k3_NoName k5_NoName "ValueError.__new__"))
    (xs_NoName : PySem.W.findIn K (.ref C_NoName) "__setattr__" = some (some (.builtin "object.__setattr__")))
    (xg_NoName : PySem.W.findIn K (.ref C_NoName) "__getattribute__" = some (some (.builtin "BaseException.__getattribute__")))
    (xt_NoName : PySem.W.findIn K (.ref C_NoName) "__getattr__" = some none)
    (xc_NoName : PySem.W.findIn K (.ref C_NoName) "__class__" = some (some (.builtin "object.__class__")))
    (xk_NoName : PySem.W.keepIn K (.ref C_NoName) = true)
    (xa_BadName : PySem.W.nsIn K mainGlobals "BadName" = some (some (.ref C_BadName)))
    (xl_BadName : K.lookup C_BadName = some (excClassObj "BadName" q_BadName C_BadName N_BadName bs_BadName [.ref C_LookError, .type "ValueError", .type "Exception", .type "BaseException", .type "object"] true sn_BadName su_BadName ab_BadName co_BadName dd_BadName k0_BadName k1_BadName k2_BadName k3_BadName k5_BadName "ValueError.__new__"))
    (xs_BadName : PySem.W.findIn K (.ref C_BadName) "__setattr__" = some (some (.builtin "object.__setattr__")))
    (xg_BadName : PySem.W.findIn K (.ref C_BadName) "__getattribute__" = some (some (.builtin "BaseException.__getattribute__")))
    (xt_BadName : PySem.W.findIn K (.ref C_BadName) "__getattr__" = some none)
    (xc_BadName : PySem.W.findIn K (.ref C_BadName) "__class__" = some (some (.builtin "object.__class__")))
    (xk_BadName : PySem.W.keepIn K (.ref C_BadName) = true)
    (xa_Taken : PySem.W.nsIn K mainGlobals "Taken" = some (some (.ref C_Taken)))
    (xl_Taken : K.lookup C_Taken = some (excClassObj "Taken" q_Taken C_Taken N_Taken bs_Taken [.ref C_LookError, .type "ValueError", .type "Exception", .type "BaseException", .type "object"] true sn_Taken su_Taken ab_Taken co_Taken dd_Taken k0_Taken k1_Taken k2_Taken k3_Taken k5_Taken "ValueError.__new__"))
    (xs_Taken : PySem.W.findIn K (.ref C_Taken) "__setattr__" = some (some (.builtin "object.__setattr__")))
    (xg_Taken : PySem.W.findIn K (.ref C_Taken) "__getattribute__" = some (some (.builtin "BaseException.__getattribute__")))
    (xt_Taken : PySem.W.findIn K (.ref C_Taken) "__getattr__" = some none)
    (xc_Taken : PySem.W.findIn K (.ref C_Taken) "__class__" = some (some (.builtin "object.__class__")))
    (xk_Taken : PySem.W.keepIn K (.ref C_Taken) = true)
    (xa_NotAlike : PySem.W.nsIn K mainGlobals "NotAlike" = some (some (.ref C_NotAlike)))
    (xl_NotAlike : K.lookup C_NotAlike = some (excClassObj "NotAlike" q_NotAlike C_NotAlike N_NotAlike bs_NotAlike [.ref C_LookError, .type "ValueError", .type "Exception", .type "BaseException", .type "object"] true sn_NotAlike su_NotAlike ab_NotAlike co_NotAlike dd_NotAlike k0_NotAlike k1_NotAlike k2_NotAlike k3_NotAlike k5_NotAlike "ValueError.__new__"))
    (xs_NotAlike : PySem.W.findIn K (.ref C_NotAlike) "__setattr__" = some (some (.builtin "object.__setattr__")))
    (xg_NotAlike : PySem.W.findIn K (.ref C_NotAlike) "__getattribute__" = some (some (.builtin "BaseException.__getattribute__")))
    (xt_NotAlike : PySem.W.findIn K (.ref C_NotAlike) "__getattr__" = some none)
    (xc_NotAlike : PySem.W.findIn K (.ref C_NotAlike) "__class__" = some (some (.builtin "object.__class__")))
    (xk_NotAlike : PySem.W.keepIn K (.ref C_NotAlike) = true)
    (xa_Rests : PySem.W.nsIn K mainGlobals "Rests" = some (some (.ref C_Rests)))
    (xl_Rests : K.lookup C_Rests = some (excClassObj "Rests" q_Rests C_Rests N_Rests bs_Rests [.ref C_LookError, .type "ValueError", .type "Exception", .type "BaseException", .type "object"] true sn_Rests su_Rests ab_Rests co_Rests dd_Rests k0_Rests k1_Rests k2_Rests k3_Rests k5_Rests "ValueError.__new__"))
    (xs_Rests : PySem.W.findIn K (.ref C_Rests) "__setattr__" = some (some (.builtin "object.__setattr__")))
    (xg_Rests : PySem.W.findIn K (.ref C_Rests) "__getattribute__" = some (some (.builtin "BaseException.__getattribute__")))
    (xt_Rests : PySem.W.findIn K (.ref C_Rests) "__getattr__" = some none)
    (xc_Rests : PySem.W.findIn K (.ref C_Rests) "__class__" = some (some (.builtin "object.__class__")))
    (xk_Rests : PySem.W.keepIn K (.ref C_Rests) = true)
    (xa_BrokenFact : PySem.W.nsIn K mainGlobals "BrokenFact" = some (some (.ref C_BrokenFact)))
    (xl_BrokenFact : K.lookup C_BrokenFact = some (excClassObj "BrokenFact" q_BrokenFact C_BrokenFact N_BrokenFact bs_BrokenFact [.ref C_LookError, .type "ValueError", .type "Exception", .type "BaseException", .type "object"] true sn_BrokenFact su_BrokenFact ab_BrokenFact co_BrokenFact dd_BrokenFact k0_BrokenFact k1_BrokenFact k2_BrokenFact k3_BrokenFact k5_BrokenFact "ValueError.__new__"))
    (xs_BrokenFact : PySem.W.findIn K (.ref C_BrokenFact) "__setattr__" = some (some (.builtin "object.__setattr__")))
    (xg_BrokenFact : PySem.W.findIn K (.ref C_BrokenFact) "__getattribute__" = some (some (.builtin "BaseException.__getattribute__")))
    (xt_BrokenFact : PySem.W.findIn K (.ref C_BrokenFact) "__getattr__" = some none)
    (xc_BrokenFact : PySem.W.findIn K (.ref C_BrokenFact) "__class__" = some (some (.builtin "object.__class__")))
    (xk_BrokenFact : PySem.W.keepIn K (.ref C_BrokenFact) = true)
    (xa_NothingToUndo : PySem.W.nsIn K mainGlobals "NothingToUndo" = some (some (.ref C_NothingToUndo)))
    (xl_NothingToUndo : K.lookup C_NothingToUndo = some (excClassObj "NothingToUndo" q_NothingToUndo C_NothingToUndo N_NothingToUndo bs_NothingToUndo [.ref C_LookError, .type "ValueError", .type "Exception", .type "BaseException", .type "object"] true sn_NothingToUndo su_NothingToUndo ab_NothingToUndo co_NothingToUndo dd_NothingToUndo k0_NothingToUndo k1_NothingToUndo k2_NothingToUndo k3_NothingToUndo k5_NothingToUndo "ValueError.__new__"))
    (xs_NothingToUndo : PySem.W.findIn K (.ref C_NothingToUndo) "__setattr__" = some (some (.builtin "object.__setattr__")))
    (xg_NothingToUndo : PySem.W.findIn K (.ref C_NothingToUndo) "__getattribute__" = some (some (.builtin "BaseException.__getattribute__")))
    (xt_NothingToUndo : PySem.W.findIn K (.ref C_NothingToUndo) "__getattr__" = some none)
    (xc_NothingToUndo : PySem.W.findIn K (.ref C_NothingToUndo) "__class__" = some (some (.builtin "object.__class__")))
    (xk_NothingToUndo : PySem.W.keepIn K (.ref C_NothingToUndo) = true)
    (xe_NothingToUndo : PySem.W.excIn K C_NothingToUndo [.type "ValueError", .type "Exception", .type "BaseException", .type "object"] "ValueError.__new__" = true)
    (fa_BadTables_init : PySem.W.findIn K (.ref C_BadTables) "__init__" = some (some (.ref f_BadTables_init)))
    (fl_BadTables_init : K.lookup f_BadTables_init = some ⟨oc_BadTables_init, od_BadTables_init, .func (PySem.W.fnOf "__init__" "BadTables.__init__" (defArgs s_BadTables_init) (defBody s_BadTables_init) (defScope s_BadTables_init) .none kV_BadTables_init dc_BadTables_init pm_BadTables_init an_BadTables_init cd_BadTables_init ct_BadTables_init), sl_BadTables_init⟩)
    (fc_BadTables_init : PySem.W.codeIn K cd_BadTables_init "BadTables.__init__" = true)
    (fk_BadTables_init : PySem.W.keepIn K (.ref f_BadTables_init) = true)
    (ft_BadTables_init : PySem.W.typeIn K (.ref f_BadTables_init) = some (.type "function"))
    (fn_BadTables_init_table : PySem.W.findIn K (.ref C_BadTables) "table" = some none)
    (fa_BadFact_init : PySem.W.findIn K (.ref C_BadFact) "__init__" = some (some (.ref f_BadFact_init)))
    (fl_BadFact_init : K.lookup f_BadFact_init = some ⟨oc_BadFact_init, od_BadFact_init, .func (PySem.W.fnOf "__init__" "BadFact.__init__" (defArgs s_BadFact_init) (defBody s_BadFact_init) (defScope s_BadFact_init) .none kV_BadFact_init dc_BadFact_init pm_BadFact_init an_BadFact_init cd_BadFact_init ct_BadFact_init), sl_BadFact_init⟩)
    (fc_BadFact_init : PySem.W.codeIn K cd_BadFact_init "BadFact.__init__" = true)
    (fk_BadFact_init : PySem.W.keepIn K (.ref f_BadFact_init) = true)
    (ft_BadFact_init : PySem.W.typeIn K (.ref f_BadFact_init) = some (.type "function"))
    (fn_BadFact_init_index : PySem.W.findIn K (.ref C_BadFact) "index" = some none)
    (fa_BadProgram_init : PySem.W.findIn K (.ref C_BadProgram) "__init__" = some (some (.ref f_BadProgram_init)))
    (fl_BadProgram_init : K.lookup f_BadProgram_init = some ⟨oc_BadProgram_init, od_BadProgram_init, .func (PySem.W.fnOf "__init__" "BadProgram.__init__" (defArgs s_BadProgram_init) (defBody s_BadProgram_init) (defScope s_BadProgram_init) .none kV_BadProgram_init dc_BadProgram_init pm_BadProgram_init an_BadProgram_init cd_BadProgram_init ct_BadProgram_init), sl_BadProgram_init⟩)
    (fc_BadProgram_init : PySem.W.codeIn K cd_BadProgram_init "BadProgram.__init__" = true)
    (fk_BadProgram_init : PySem.W.keepIn K (.ref f_BadProgram_init) = true)
    (ft_BadProgram_init : PySem.W.typeIn K (.ref f_BadProgram_init) = some (.type "function"))
    (fn_BadProgram_init_line : PySem.W.findIn K (.ref C_BadProgram) "line" = some none)
    (fa_NoLine_init : PySem.W.findIn K (.ref C_NoLine) "__init__" = some (some (.ref f_NoLine_init)))
    (fl_NoLine_init : K.lookup f_NoLine_init = some ⟨oc_NoLine_init, od_NoLine_init, .func (PySem.W.fnOf "__init__" "NoLine.__init__" (defArgs s_NoLine_init) (defBody s_NoLine_init) (defScope s_NoLine_init) .none kV_NoLine_init dc_NoLine_init pm_NoLine_init an_NoLine_init cd_NoLine_init ct_NoLine_init), sl_NoLine_init⟩)
    (fc_NoLine_init : PySem.W.codeIn K cd_NoLine_init "NoLine.__init__" = true)
    (fk_NoLine_init : PySem.W.keepIn K (.ref f_NoLine_init) = true)
    (ft_NoLine_init : PySem.W.typeIn K (.ref f_NoLine_init) = some (.type "function"))
    (fn_NoLine_init_line : PySem.W.findIn K (.ref C_NoLine) "line" = some none)
    (fa_NoKey_init : PySem.W.findIn K (.ref C_NoKey) "__init__" = some (some (.ref f_NoKey_init)))
    (fl_NoKey_init : K.lookup f_NoKey_init = some ⟨oc_NoKey_init, od_NoKey_init, .func (PySem.W.fnOf "__init__" "NoKey.__init__" (defArgs s_NoKey_init) (defBody s_NoKey_init) (defScope s_NoKey_init) .none kV_NoKey_init dc_NoKey_init pm_NoKey_init an_NoKey_init cd_NoKey_init ct_NoKey_init), sl_NoKey_init⟩)
    (fc_NoKey_init : PySem.W.codeIn K cd_NoKey_init "NoKey.__init__" = true)
    (fk_NoKey_init : PySem.W.keepIn K (.ref f_NoKey_init) = true)
    (ft_NoKey_init : PySem.W.typeIn K (.ref f_NoKey_init) = some (.type "function"))
    (fn_NoKey_init_line : PySem.W.findIn K (.ref C_NoKey) "line" = some none)
    (fa_NoName_init : PySem.W.findIn K (.ref C_NoName) "__init__" = some (some (.ref f_NoName_init)))
    (fl_NoName_init : K.lookup f_NoName_init = some ⟨oc_NoName_init, od_NoName_init, .func (PySem.W.fnOf "__init__" "NoName.__init__" (defArgs s_NoName_init) (defBody s_NoName_init) (defScope s_NoName_init) .none kV_NoName_init dc_NoName_init pm_NoName_init an_NoName_init cd_NoName_init ct_NoName_init), sl_NoName_init⟩)
    (fc_NoName_init : PySem.W.codeIn K cd_NoName_init "NoName.__init__" = true)
    (fk_NoName_init : PySem.W.keepIn K (.ref f_NoName_init) = true)
    (ft_NoName_init : PySem.W.typeIn K (.ref f_NoName_init) = some (.type "function"))
    (fn_NoName_init_name : PySem.W.findIn K (.ref C_NoName) "name" = some none)
    (fa_BadName_init : PySem.W.findIn K (.ref C_BadName) "__init__" = some (some (.ref f_BadName_init)))
    (fl_BadName_init : K.lookup f_BadName_init = some ⟨oc_BadName_init, od_BadName_init, .func (PySem.W.fnOf "__init__" "BadName.__init__" (defArgs s_BadName_init) (defBody s_BadName_init) (defScope s_BadName_init) .none kV_BadName_init dc_BadName_init pm_BadName_init an_BadName_init cd_BadName_init ct_BadName_init), sl_BadName_init⟩)
    (fc_BadName_init : PySem.W.codeIn K cd_BadName_init "BadName.__init__" = true)
    (fk_BadName_init : PySem.W.keepIn K (.ref f_BadName_init) = true)
    (ft_BadName_init : PySem.W.typeIn K (.ref f_BadName_init) = some (.type "function"))
    (fn_BadName_init_name : PySem.W.findIn K (.ref C_BadName) "name" = some none)
    (fa_Taken_init : PySem.W.findIn K (.ref C_Taken) "__init__" = some (some (.ref f_Taken_init)))
    (fl_Taken_init : K.lookup f_Taken_init = some ⟨oc_Taken_init, od_Taken_init, .func (PySem.W.fnOf "__init__" "Taken.__init__" (defArgs s_Taken_init) (defBody s_Taken_init) (defScope s_Taken_init) .none kV_Taken_init dc_Taken_init pm_Taken_init an_Taken_init cd_Taken_init ct_Taken_init), sl_Taken_init⟩)
    (fc_Taken_init : PySem.W.codeIn K cd_Taken_init "Taken.__init__" = true)
    (fk_Taken_init : PySem.W.keepIn K (.ref f_Taken_init) = true)
    (ft_Taken_init : PySem.W.typeIn K (.ref f_Taken_init) = some (.type "function"))
    (fn_Taken_init_name : PySem.W.findIn K (.ref C_Taken) "name" = some none)
    (fa_NotAlike_init : PySem.W.findIn K (.ref C_NotAlike) "__init__" = some (some (.ref f_NotAlike_init)))
    (fl_NotAlike_init : K.lookup f_NotAlike_init = some ⟨oc_NotAlike_init, od_NotAlike_init, .func (PySem.W.fnOf "__init__" "NotAlike.__init__" (defArgs s_NotAlike_init) (defBody s_NotAlike_init) (defScope s_NotAlike_init) .none kV_NotAlike_init dc_NotAlike_init pm_NotAlike_init an_NotAlike_init cd_NotAlike_init ct_NotAlike_init), sl_NotAlike_init⟩)
    (fc_NotAlike_init : PySem.W.codeIn K cd_NotAlike_init "NotAlike.__init__" = true)
    (fk_NotAlike_init : PySem.W.keepIn K (.ref f_NotAlike_init) = true)
    (ft_NotAlike_init : PySem.W.typeIn K (.ref f_NotAlike_init) = some (.type "function"))
    (fn_NotAlike_init_name : PySem.W.findIn K (.ref C_NotAlike) "name" = some none)
    (fn_NotAlike_init_tables : PySem.W.findIn K (.ref C_NotAlike) "tables" = some none)
    (fa_Rests_init : PySem.W.findIn K (.ref C_Rests) "__init__" = some (some (.ref f_Rests_init)))
    (fl_Rests_init : K.lookup f_Rests_init = some ⟨oc_Rests_init, od_Rests_init, .func (PySem.W.fnOf "__init__" "Rests.__init__" (defArgs s_Rests_init) (defBody s_Rests_init) (defScope s_Rests_init) .none kV_Rests_init dc_Rests_init pm_Rests_init an_Rests_init cd_Rests_init ct_Rests_init), sl_Rests_init⟩)
    (fc_Rests_init : PySem.W.codeIn K cd_Rests_init "Rests.__init__" = true)
    (fk_Rests_init : PySem.W.keepIn K (.ref f_Rests_init) = true)
    (ft_Rests_init : PySem.W.typeIn K (.ref f_Rests_init) = some (.type "function"))
    (fn_Rests_init_name : PySem.W.findIn K (.ref C_Rests) "name" = some none)
    (fn_Rests_init_tables : PySem.W.findIn K (.ref C_Rests) "tables" = some none)
    (fa_BrokenFact_init : PySem.W.findIn K (.ref C_BrokenFact) "__init__" = some (some (.ref f_BrokenFact_init)))
    (fl_BrokenFact_init : K.lookup f_BrokenFact_init = some ⟨oc_BrokenFact_init, od_BrokenFact_init, .func (PySem.W.fnOf "__init__" "BrokenFact.__init__" (defArgs s_BrokenFact_init) (defBody s_BrokenFact_init) (defScope s_BrokenFact_init) .none kV_BrokenFact_init dc_BrokenFact_init pm_BrokenFact_init an_BrokenFact_init cd_BrokenFact_init ct_BrokenFact_init), sl_BrokenFact_init⟩)
    (fc_BrokenFact_init : PySem.W.codeIn K cd_BrokenFact_init "BrokenFact.__init__" = true)
    (fk_BrokenFact_init : PySem.W.keepIn K (.ref f_BrokenFact_init) = true)
    (ft_BrokenFact_init : PySem.W.typeIn K (.ref f_BrokenFact_init) = some (.type "function"))
    (fn_BrokenFact_init_fact : PySem.W.findIn K (.ref C_BrokenFact) "fact" = some none)
    (fa_copied : PySem.W.nsIn K mainGlobals "_copied" = some (some (.ref f_copied)))
    (fl_copied : K.lookup f_copied = some ⟨oc_copied, od_copied, .func (PySem.W.fnOf "_copied" "_copied" (defArgs s_copied) (defBody s_copied) (defScope s_copied) .none kV_copied dc_copied pm_copied an_copied cd_copied ct_copied), sl_copied⟩)
    (fc_copied : PySem.W.codeIn K cd_copied "_copied" = true)
    (fk_copied : PySem.W.keepIn K (.ref f_copied) = true)
    (fa_begun_pen : PySem.W.nsIn K mainGlobals "_law_begun_pen" = some (some (.ref f_begun_pen)))
    (fl_begun_pen : K.lookup f_begun_pen = some ⟨oc_begun_pen, od_begun_pen, .func (PySem.W.fnOf "_law_begun_pen" "_law_begun_pen" (defArgs s_begun_pen) (defBody s_begun_pen) (defScope s_begun_pen) .none kV_begun_pen dc_begun_pen pm_begun_pen an_begun_pen cd_begun_pen ct_begun_pen), sl_begun_pen⟩)
    (fc_begun_pen : PySem.W.codeIn K cd_begun_pen "_law_begun_pen" = true)
    (fk_begun_pen : PySem.W.keepIn K (.ref f_begun_pen) = true)
    (fa_draw : PySem.W.nsIn K mainGlobals "_law_draw" = some (some (.ref f_draw)))
    (fl_draw : K.lookup f_draw = some ⟨oc_draw, od_draw, .func (PySem.W.fnOf "_law_draw" "_law_draw" (defArgs s_draw) (defBody s_draw) (defScope s_draw) .none kV_draw dc_draw pm_draw an_draw cd_draw ct_draw), sl_draw⟩)
    (fc_draw : PySem.W.codeIn K cd_draw "_law_draw" = true)
    (fk_draw : PySem.W.keepIn K (.ref f_draw) = true)
    (fa_shuffled : PySem.W.nsIn K mainGlobals "_law_shuffled" = some (some (.ref f_shuffled)))
    (fl_shuffled : K.lookup f_shuffled = some ⟨oc_shuffled, od_shuffled, .func (PySem.W.fnOf "_law_shuffled" "_law_shuffled" (defArgs s_shuffled) (defBody s_shuffled) (defScope s_shuffled) .none kV_shuffled dc_shuffled pm_shuffled an_shuffled cd_shuffled ct_shuffled), sl_shuffled⟩)
    (fc_shuffled : PySem.W.codeIn K cd_shuffled "_law_shuffled" = true)
    (fk_shuffled : PySem.W.keepIn K (.ref f_shuffled) = true)
    (fa_new_names : PySem.W.nsIn K mainGlobals "_law_new_names" = some (some (.ref f_new_names)))
    (fl_new_names : K.lookup f_new_names = some ⟨oc_new_names, od_new_names, .func (PySem.W.fnOf "_law_new_names" "_law_new_names" (defArgs s_new_names) (defBody s_new_names) (defScope s_new_names) .none kV_new_names dc_new_names pm_new_names an_new_names cd_new_names ct_new_names), sl_new_names⟩)
    (fc_new_names : PySem.W.codeIn K cd_new_names "_law_new_names" = true)
    (fk_new_names : PySem.W.keepIn K (.ref f_new_names) = true)
    (fa_new_integer : PySem.W.nsIn K mainGlobals "_law_new_integer" = some (some (.ref f_new_integer)))
    (fl_new_integer : K.lookup f_new_integer = some ⟨oc_new_integer, od_new_integer, .func (PySem.W.fnOf "_law_new_integer" "_law_new_integer" (defArgs s_new_integer) (defBody s_new_integer) (defScope s_new_integer) .none kV_new_integer dc_new_integer pm_new_integer an_new_integer cd_new_integer ct_new_integer), sl_new_integer⟩)
    (fc_new_integer : PySem.W.codeIn K cd_new_integer "_law_new_integer" = true)
    (fk_new_integer : PySem.W.keepIn K (.ref f_new_integer) = true)
    (fa_classes : PySem.W.nsIn K mainGlobals "_law_classes" = some (some (.ref f_classes)))
    (fl_classes : K.lookup f_classes = some ⟨oc_classes, od_classes, .func (PySem.W.fnOf "_law_classes" "_law_classes" (defArgs s_classes) (defBody s_classes) (defScope s_classes) .none kV_classes dc_classes pm_classes an_classes cd_classes ct_classes), sl_classes⟩)
    (fc_classes : PySem.W.codeIn K cd_classes "_law_classes" = true)
    (fk_classes : PySem.W.keepIn K (.ref f_classes) = true)
    (fa_numbered : PySem.W.nsIn K mainGlobals "_law_numbered" = some (some (.ref f_numbered)))
    (fl_numbered : K.lookup f_numbered = some ⟨oc_numbered, od_numbered, .func (PySem.W.fnOf "_law_numbered" "_law_numbered" (defArgs s_numbered) (defBody s_numbered) (defScope s_numbered) .none kV_numbered dc_numbered pm_numbered an_numbered cd_numbered ct_numbered), sl_numbered⟩)
    (fc_numbered : PySem.W.codeIn K cd_numbered "_law_numbered" = true)
    (fk_numbered : PySem.W.keepIn K (.ref f_numbered) = true)
    (fa_texted : PySem.W.nsIn K mainGlobals "_law_texted" = some (some (.ref f_texted)))
    (fl_texted : K.lookup f_texted = some ⟨oc_texted, od_texted, .func (PySem.W.fnOf "_law_texted" "_law_texted" (defArgs s_texted) (defBody s_texted) (defScope s_texted) .none kV_texted dc_texted pm_texted an_texted cd_texted ct_texted), sl_texted⟩)
    (fc_texted : PySem.W.codeIn K cd_texted "_law_texted" = true)
    (fk_texted : PySem.W.keepIn K (.ref f_texted) = true)
    (fa_shown : PySem.W.nsIn K mainGlobals "_law_shown" = some (some (.ref f_shown)))
    (fl_shown : K.lookup f_shown = some ⟨oc_shown, od_shown, .func (PySem.W.fnOf "_law_shown" "_law_shown" (defArgs s_shown) (defBody s_shown) (defScope s_shown) .none kV_shown dc_shown pm_shown an_shown cd_shown ct_shown), sl_shown⟩)
    (fc_shown : PySem.W.codeIn K cd_shown "_law_shown" = true)
    (fk_shown : PySem.W.keepIn K (.ref f_shown) = true)
    (fa_law : PySem.W.nsIn K mainGlobals "law" = some (some (.ref f_law)))
    (fl_law : K.lookup f_law = some ⟨oc_law, od_law, .func (PySem.W.fnOf "law" "law" (defArgs s_law) (defBody s_law) (defScope s_law) .none kV_law dc_law pm_law an_law cd_law ct_law), sl_law⟩)
    (fc_law : PySem.W.codeIn K cd_law "law" = true)
    (fk_law : PySem.W.keepIn K (.ref f_law) = true)
    : TX K mg where
  z_isinstance := PySem.W.mg_none_of X G z_isinstance
  z_dict := PySem.W.mg_none_of X G z_dict
  z_list := PySem.W.mg_none_of X G z_list
  z_int := PySem.W.mg_none_of X G z_int
  z_len := PySem.W.mg_none_of X G z_len
  z_abs := PySem.W.mg_none_of X G z_abs
  z_ValueError := PySem.W.mg_none_of X G z_ValueError
  z_range := PySem.W.mg_none_of X G z_range
  e_LookError := xe_LookError
  x_LookError := ⟨C_LookError, PySem.W.mg_of X G xa_LookError, ⟨_, _, _, _, _, _, _, _, _, _, _, _, _, xl_LookError⟩, rfl, xs_LookError, xg_LookError, xt_LookError, xc_LookError, xk_LookError, gn, gt⟩
  x_BadTables := ⟨C_BadTables, PySem.W.mg_of X G xa_BadTables, ⟨_, _, _, _, _, _, _, _, _, _, _, _, _, xl_BadTables⟩, rfl, xs_BadTables, xg_BadTables, xt_BadTables, xc_BadTables, xk_BadTables, gn, gt⟩
  x_BadFact := ⟨C_BadFact, PySem.W.mg_of X G xa_BadFact, ⟨_, _, _, _, _, _, _, _, _, _, _, _, _, xl_BadFact⟩, rfl, xs_BadFact, xg_BadFact, xt_BadFact, xc_BadFact, xk_BadFact, gn, gt⟩
  x_BadProgram := ⟨C_BadProgram, PySem.W.mg_of X G xa_BadProgram, ⟨_, _, _, _, _, _, _, _, _, _, _, _, _, xl_BadProgram⟩, rfl, xs_BadProgram, xg_BadProgram, xt_BadProgram, xc_BadProgram, xk_BadProgram, gn, gt⟩
  e_OtherTables := xe_OtherTables
  x_OtherTables := ⟨C_OtherTables, PySem.W.mg_of X G xa_OtherTables, ⟨_, _, _, _, _, _, _, _, _, _, _, _, _, xl_OtherTables⟩, rfl, xs_OtherTables, xg_OtherTables, xt_OtherTables, xc_OtherTables, xk_OtherTables, gn, gt⟩
  x_NoLine := ⟨C_NoLine, PySem.W.mg_of X G xa_NoLine, ⟨_, _, _, _, _, _, _, _, _, _, _, _, _, xl_NoLine⟩, rfl, xs_NoLine, xg_NoLine, xt_NoLine, xc_NoLine, xk_NoLine, gn, gt⟩
  x_NoKey := ⟨C_NoKey, PySem.W.mg_of X G xa_NoKey, ⟨_, _, _, _, _, _, _, _, _, _, _, _, _, xl_NoKey⟩, rfl, xs_NoKey, xg_NoKey, xt_NoKey, xc_NoKey, xk_NoKey, gn, gt⟩
  x_NoName := ⟨C_NoName, PySem.W.mg_of X G xa_NoName, ⟨_, _, _, _, _, _, _, _, _, _, _, _, _, xl_NoName⟩, rfl, xs_NoName, xg_NoName, xt_NoName, xc_NoName, xk_NoName, gn, gt⟩
  x_BadName := ⟨C_BadName, PySem.W.mg_of X G xa_BadName, ⟨_, _, _, _, _, _, _, _, _, _, _, _, _, xl_BadName⟩, rfl, xs_BadName, xg_BadName, xt_BadName, xc_BadName, xk_BadName, gn, gt⟩
  x_Taken := ⟨C_Taken, PySem.W.mg_of X G xa_Taken, ⟨_, _, _, _, _, _, _, _, _, _, _, _, _, xl_Taken⟩, rfl, xs_Taken, xg_Taken, xt_Taken, xc_Taken, xk_Taken, gn, gt⟩
  x_NotAlike := ⟨C_NotAlike, PySem.W.mg_of X G xa_NotAlike, ⟨_, _, _, _, _, _, _, _, _, _, _, _, _, xl_NotAlike⟩, rfl, xs_NotAlike, xg_NotAlike, xt_NotAlike, xc_NotAlike, xk_NotAlike, gn, gt⟩
  x_Rests := ⟨C_Rests, PySem.W.mg_of X G xa_Rests, ⟨_, _, _, _, _, _, _, _, _, _, _, _, _, xl_Rests⟩, rfl, xs_Rests, xg_Rests, xt_Rests, xc_Rests, xk_Rests, gn, gt⟩
  x_BrokenFact := ⟨C_BrokenFact, PySem.W.mg_of X G xa_BrokenFact, ⟨_, _, _, _, _, _, _, _, _, _, _, _, _, xl_BrokenFact⟩, rfl, xs_BrokenFact, xg_BrokenFact, xt_BrokenFact, xc_BrokenFact, xk_BrokenFact, gn, gt⟩
  e_NothingToUndo := xe_NothingToUndo
  x_NothingToUndo := ⟨C_NothingToUndo, PySem.W.mg_of X G xa_NothingToUndo, ⟨_, _, _, _, _, _, _, _, _, _, _, _, _, xl_NothingToUndo⟩, rfl, xs_NothingToUndo, xg_NothingToUndo, xt_NothingToUndo, xc_NothingToUndo, xk_NothingToUndo, gn, gt⟩
  a_BadTables_init := f_BadTables_init
  fd_BadTables_init := _
  F_BadTables_init := fun_mk (st := s_BadTables_init) fl_BadTables_init fc_BadTables_init fk_BadTables_init
  b_BadTables_init := (fun_mk (st := s_BadTables_init) fl_BadTables_init fc_BadTables_init fk_BadTables_init).binds (ps := p_BadTables_init) fun _ _ _ _ _ _ us hl => match us, hl with | [_, _], _ => rfl
  i_BadTables_init := fa_BadTables_init
  t_BadTables_init := ft_BadTables_init
  f_BadTables_init_table := fn_BadTables_init_table
  a_BadFact_init := f_BadFact_init
  fd_BadFact_init := _
  F_BadFact_init := fun_mk (st := s_BadFact_init) fl_BadFact_init fc_BadFact_init fk_BadFact_init
  b_BadFact_init := (fun_mk (st := s_BadFact_init) fl_BadFact_init fc_BadFact_init fk_BadFact_init).binds (ps := p_BadFact_init) fun _ _ _ _ _ _ us hl => match us, hl with | [_, _], _ => rfl
  i_BadFact_init := fa_BadFact_init
  t_BadFact_init := ft_BadFact_init
  f_BadFact_init_index := fn_BadFact_init_index
  a_BadProgram_init := f_BadProgram_init
  fd_BadProgram_init := _
  F_BadProgram_init := fun_mk (st := s_BadProgram_init) fl_BadProgram_init fc_BadProgram_init fk_BadProgram_init
  b_BadProgram_init := (fun_mk (st := s_BadProgram_init) fl_BadProgram_init fc_BadProgram_init fk_BadProgram_init).binds (ps := p_BadProgram_init) fun _ _ _ _ _ _ us hl => match us, hl with | [_, _], _ => rfl
  i_BadProgram_init := fa_BadProgram_init
  t_BadProgram_init := ft_BadProgram_init
  f_BadProgram_init_line := fn_BadProgram_init_line
  a_NoLine_init := f_NoLine_init
  fd_NoLine_init := _
  F_NoLine_init := fun_mk (st := s_NoLine_init) fl_NoLine_init fc_NoLine_init fk_NoLine_init
  b_NoLine_init := (fun_mk (st := s_NoLine_init) fl_NoLine_init fc_NoLine_init fk_NoLine_init).binds (ps := p_NoLine_init) fun _ _ _ _ _ _ us hl => match us, hl with | [_, _], _ => rfl
  i_NoLine_init := fa_NoLine_init
  t_NoLine_init := ft_NoLine_init
  f_NoLine_init_line := fn_NoLine_init_line
  a_NoKey_init := f_NoKey_init
  fd_NoKey_init := _
  F_NoKey_init := fun_mk (st := s_NoKey_init) fl_NoKey_init fc_NoKey_init fk_NoKey_init
  b_NoKey_init := (fun_mk (st := s_NoKey_init) fl_NoKey_init fc_NoKey_init fk_NoKey_init).binds (ps := p_NoKey_init) fun _ _ _ _ _ _ us hl => match us, hl with | [_, _], _ => rfl
  i_NoKey_init := fa_NoKey_init
  t_NoKey_init := ft_NoKey_init
  f_NoKey_init_line := fn_NoKey_init_line
  a_NoName_init := f_NoName_init
  fd_NoName_init := _
  F_NoName_init := fun_mk (st := s_NoName_init) fl_NoName_init fc_NoName_init fk_NoName_init
  b_NoName_init := (fun_mk (st := s_NoName_init) fl_NoName_init fc_NoName_init fk_NoName_init).binds (ps := p_NoName_init) fun _ _ _ _ _ _ us hl => match us, hl with | [_, _], _ => rfl
  i_NoName_init := fa_NoName_init
  t_NoName_init := ft_NoName_init
  f_NoName_init_name := fn_NoName_init_name
  a_BadName_init := f_BadName_init
  fd_BadName_init := _
  F_BadName_init := fun_mk (st := s_BadName_init) fl_BadName_init fc_BadName_init fk_BadName_init
  b_BadName_init := (fun_mk (st := s_BadName_init) fl_BadName_init fc_BadName_init fk_BadName_init).binds (ps := p_BadName_init) fun _ _ _ _ _ _ us hl => match us, hl with | [_, _], _ => rfl
  i_BadName_init := fa_BadName_init
  t_BadName_init := ft_BadName_init
  f_BadName_init_name := fn_BadName_init_name
  a_Taken_init := f_Taken_init
  fd_Taken_init := _
  F_Taken_init := fun_mk (st := s_Taken_init) fl_Taken_init fc_Taken_init fk_Taken_init
  b_Taken_init := (fun_mk (st := s_Taken_init) fl_Taken_init fc_Taken_init fk_Taken_init).binds (ps := p_Taken_init) fun _ _ _ _ _ _ us hl => match us, hl with | [_, _], _ => rfl
  i_Taken_init := fa_Taken_init
  t_Taken_init := ft_Taken_init
  f_Taken_init_name := fn_Taken_init_name
  a_NotAlike_init := f_NotAlike_init
  fd_NotAlike_init := _
  F_NotAlike_init := fun_mk (st := s_NotAlike_init) fl_NotAlike_init fc_NotAlike_init fk_NotAlike_init
  b_NotAlike_init := (fun_mk (st := s_NotAlike_init) fl_NotAlike_init fc_NotAlike_init fk_NotAlike_init).binds (ps := p_NotAlike_init) fun _ _ _ _ _ _ us hl => match us, hl with | [_, _, _], _ => rfl
  i_NotAlike_init := fa_NotAlike_init
  t_NotAlike_init := ft_NotAlike_init
  f_NotAlike_init_name := fn_NotAlike_init_name
  f_NotAlike_init_tables := fn_NotAlike_init_tables
  a_Rests_init := f_Rests_init
  fd_Rests_init := _
  F_Rests_init := fun_mk (st := s_Rests_init) fl_Rests_init fc_Rests_init fk_Rests_init
  b_Rests_init := (fun_mk (st := s_Rests_init) fl_Rests_init fc_Rests_init fk_Rests_init).binds (ps := p_Rests_init) fun _ _ _ _ _ _ us hl => match us, hl with | [_, _, _], _ => rfl
  i_Rests_init := fa_Rests_init
  t_Rests_init := ft_Rests_init
  f_Rests_init_name := fn_Rests_init_name
  f_Rests_init_tables := fn_Rests_init_tables
  a_BrokenFact_init := f_BrokenFact_init
  fd_BrokenFact_init := _
  F_BrokenFact_init := fun_mk (st := s_BrokenFact_init) fl_BrokenFact_init fc_BrokenFact_init fk_BrokenFact_init
  b_BrokenFact_init := (fun_mk (st := s_BrokenFact_init) fl_BrokenFact_init fc_BrokenFact_init fk_BrokenFact_init).binds (ps := p_BrokenFact_init) fun _ _ _ _ _ _ us hl => match us, hl with | [_, _], _ => rfl
  i_BrokenFact_init := fa_BrokenFact_init
  t_BrokenFact_init := ft_BrokenFact_init
  f_BrokenFact_init_fact := fn_BrokenFact_init_fact
  a_copied := f_copied
  fd_copied := _
  F_copied := fun_mk (st := s_copied) fl_copied fc_copied fk_copied
  b_copied := (fun_mk (st := s_copied) fl_copied fc_copied fk_copied).binds (ps := p_copied) fun _ _ _ _ _ _ us hl => match us, hl with | [_], _ => rfl
  g_copied := PySem.W.mg_of X G fa_copied
  a_begun_pen := f_begun_pen
  fd_begun_pen := _
  F_begun_pen := fun_mk (st := s_begun_pen) fl_begun_pen fc_begun_pen fk_begun_pen
  b_begun_pen := (fun_mk (st := s_begun_pen) fl_begun_pen fc_begun_pen fk_begun_pen).binds (ps := p_begun_pen) fun _ _ _ _ _ _ us hl => match us, hl with | [_], _ => rfl
  g_begun_pen := PySem.W.mg_of X G fa_begun_pen
  a_draw := f_draw
  fd_draw := _
  F_draw := fun_mk (st := s_draw) fl_draw fc_draw fk_draw
  b_draw := (fun_mk (st := s_draw) fl_draw fc_draw fk_draw).binds (ps := p_draw) fun _ _ _ _ _ _ us hl => match us, hl with | [_, _], _ => rfl
  g_draw := PySem.W.mg_of X G fa_draw
  a_shuffled := f_shuffled
  fd_shuffled := _
  F_shuffled := fun_mk (st := s_shuffled) fl_shuffled fc_shuffled fk_shuffled
  b_shuffled := (fun_mk (st := s_shuffled) fl_shuffled fc_shuffled fk_shuffled).binds (ps := p_shuffled) fun _ _ _ _ _ _ us hl => match us, hl with | [_, _], _ => rfl
  g_shuffled := PySem.W.mg_of X G fa_shuffled
  a_new_names := f_new_names
  fd_new_names := _
  F_new_names := fun_mk (st := s_new_names) fl_new_names fc_new_names fk_new_names
  b_new_names := (fun_mk (st := s_new_names) fl_new_names fc_new_names fk_new_names).binds (ps := p_new_names) fun _ _ _ _ _ _ us hl => match us, hl with | [_, _], _ => rfl
  g_new_names := PySem.W.mg_of X G fa_new_names
  a_new_integer := f_new_integer
  fd_new_integer := _
  F_new_integer := fun_mk (st := s_new_integer) fl_new_integer fc_new_integer fk_new_integer
  b_new_integer := (fun_mk (st := s_new_integer) fl_new_integer fc_new_integer fk_new_integer).binds (ps := p_new_integer) fun _ _ _ _ _ _ us hl => match us, hl with | [_], _ => rfl
  g_new_integer := PySem.W.mg_of X G fa_new_integer
  a_classes := f_classes
  fd_classes := _
  F_classes := fun_mk (st := s_classes) fl_classes fc_classes fk_classes
  b_classes := (fun_mk (st := s_classes) fl_classes fc_classes fk_classes).binds (ps := p_classes) fun _ _ _ _ _ _ us hl => match us, hl with | [_], _ => rfl
  g_classes := PySem.W.mg_of X G fa_classes
  a_numbered := f_numbered
  fd_numbered := _
  F_numbered := fun_mk (st := s_numbered) fl_numbered fc_numbered fk_numbered
  b_numbered := (fun_mk (st := s_numbered) fl_numbered fc_numbered fk_numbered).binds (ps := p_numbered) fun _ _ _ _ _ _ us hl => match us, hl with | [_], _ => rfl
  g_numbered := PySem.W.mg_of X G fa_numbered
  a_texted := f_texted
  fd_texted := _
  F_texted := fun_mk (st := s_texted) fl_texted fc_texted fk_texted
  b_texted := (fun_mk (st := s_texted) fl_texted fc_texted fk_texted).binds (ps := p_texted) fun _ _ _ _ _ _ us hl => match us, hl with | [_], _ => rfl
  g_texted := PySem.W.mg_of X G fa_texted
  a_shown := f_shown
  fd_shown := _
  F_shown := fun_mk (st := s_shown) fl_shown fc_shown fk_shown
  b_shown := (fun_mk (st := s_shown) fl_shown fc_shown fk_shown).binds (ps := p_shown) fun _ _ _ _ _ _ us hl => match us, hl with | [_], _ => rfl
  g_shown := PySem.W.mg_of X G fa_shown
  a_law := f_law
  fd_law := _
  F_law := fun_mk (st := s_law) fl_law fc_law fk_law
  b_law := (fun_mk (st := s_law) fl_law fc_law fk_law).binds (ps := p_law) fun _ _ _ _ _ _ us hl => match us, hl with | [_], _ => rfl
  g_law := PySem.W.mg_of X G fa_law
theorem walk {l : PySem.W.OpenLaw} {q : Program} {loose : List Str} {XP : (Str → Option Value) → Heap → Prop} {YP : World → Heap → Prop} {d : DefRec} {K : Params → PySem.W.Frag} (hn : l.most = some 63) (hdf : d.params.defaults = []) (hnm : d.name = "law")
    (hY : ∀ (w : World) (h : Heap), YP w h → (K w.params).In h) (F : ∀ (w : World) (mg : Str → Option Value) (h : Heap), (K w.params).In h → h.Ns mainGlobals mg → ∃ T : TX (K w.params) mg, ∀ (s : Shared) (u : Value), BindsTo s T.fd_law ⟨[u], []⟩ [("_law_script", u)]) :
    PySem.W.WalkO q loose XP YP l.row.toRowW d [] (fun f vs => PySem.call f vs) :=
  L2.walk_of (n := 63) (k := 5) (x := "_law_script") (CX := fun _ => CX0) (sp := fun w => sp_law (K w.params)) hn (by decide) hdf ⟨rfl, by decide, by decide⟩ hY
    (fun w mg fa h KX G e => by
      obtain ⟨T, hb⟩ := F w mg h KX G
      have z := e.symm.trans (hnm ▸ T.g_law)
      cases z
      exact ⟨T.fd_law, hb, fun base _ _ => ok_law T⟩)
    (fun _ _ a ns hl hO hS => sp_law_ask hl hO hS) fun _ _ _ _ _ z => z
end L2.Pf
open PySem PySem.W PyProof.Rows in
set_option maxRecDepth 100000 in
set_option maxHeartbeats 0 in
theorem PySem.Challenge.cw_lookuploops_k43_errors_holds : PySem.Challenge.rw_lookuploops_k43_errors.Holds := by
  w_on; o_law; k_head; (case hw => w_witness2)
  k_fill
  refine L2.Pf.walk (l := PySem.Challenge.rw_lookuploops_k43_errors) rfl rfl rfl (fun w h Y => PySem.W.kIn_of Y) ?F
  case F =>
    intro w mg h KX G
    refine' ⟨L2.Pf.mk_TX KX G ?z_isinstance ?z_dict ?z_list ?z_int ?z_len ?z_abs ?z_ValueError ?z_range ?gn ?gt ?xa_LookError ?xl_LookError ?xs_LookError ?xg_LookError ?xt_LookError ?xc_LookError ?xk_LookError ?xe_LookError ?xa_BadTables ?xl_BadTables ?xs_BadTables ?xg_BadTables ?xt_BadTables ?xc_BadTables ?xk_BadTables ?xa_BadFact ?xl_BadFact ?xs_BadFact ?xg_BadFact ?xt_BadFact ?xc_BadFact ?xk_BadFact ?xa_BadProgram ?xl_BadProgram ?xs_BadProgram ?xg_BadProgram ?xt_BadProgram ?xc_BadProgram ?xk_BadProgram ?xa_OtherTables ?xl_OtherTables ?xs_OtherTables ?xg_OtherTables ?xt_OtherTables ?xc_OtherTables ?xk_OtherTables ?xe_OtherTables ?xa_NoLine ?xl_NoLine ?xs_NoLine ?xg_NoLine ?xt_NoLine ?xc_NoLine ?xk_NoLine ?xa_NoKey ?xl_NoKey ?xs_NoKey ?xg_NoKey ?xt_NoKey ?xc_NoKey ?xk_NoKey ?xa_NoName ?xl_NoName ?xs_NoName ?xg_NoName ?xt_NoName ?xc_NoName ?xk_NoName ?xa_BadName ?xl_BadName ?xs_BadName ?xg_BadName ?xt_BadName ?xc_BadName ?xk_BadName ?xa_Taken ?xl_Taken ?xs_Taken ?xg_Taken ?xt_Taken ?xc_Taken ?xk_Taken ?xa_NotAlike ?xl_NotAlike ?xs_NotAlike ?xg_NotAlike ?xt_NotAlike ?xc_NotAlike ?xk_NotAlike ?xa_Rests ?xl_Rests ?xs_Rests ?xg_Rests ?xt_Rests ?xc_Rests ?xk_Rests ?xa_BrokenFact ?xl_BrokenFact ?xs_BrokenFact ?xg_BrokenFact ?xt_BrokenFact ?xc_BrokenFact ?xk_BrokenFact ?xa_NothingToUndo ?xl_NothingToUndo ?xs_NothingToUndo ?xg_NothingToUndo ?xt_NothingToUndo ?xc_NothingToUndo ?xk_NothingToUndo ?xe_NothingToUndo ?fa_BadTables_init ?fl_BadTables_init ?fc_BadTables_init ?fk_BadTables_init ?ft_BadTables_init ?fn_BadTables_init_table ?fa_BadFact_init ?fl_BadFact_init ?fc_BadFact_init ?fk_BadFact_init ?ft_BadFact_init ?fn_BadFact_init_index ?fa_BadProgram_init ?fl_BadProgram_init ?fc_BadProgram_init ?fk_BadProgram_init ?ft_BadProgram_init ?fn_BadProgram_init_line ?fa_NoLine_init ?fl_NoLine_init ?fc_NoLine_init ?fk_NoLine_init ?ft_NoLine_init ?fn_NoLine_init_line ?fa_NoKey_init ?fl_NoKey_init ?fc_NoKey_init ?fk_NoKey_init ?ft_NoKey_init ?fn_NoKey_init_line ?fa_NoName_init ?fl_NoName_init ?fc_NoName_init ?fk_NoName_init ?ft_NoName_init ?fn_NoName_init_name ?fa_BadName_init ?fl_BadName_init ?fc_BadName_init ?fk_BadName_init ?ft_BadName_init ?fn_BadName_init_name ?fa_Taken_init ?fl_Taken_init ?fc_Taken_init ?fk_Taken_init ?ft_Taken_init ?fn_Taken_init_name ?fa_NotAlike_init ?fl_NotAlike_init ?fc_NotAlike_init ?fk_NotAlike_init ?ft_NotAlike_init ?fn_NotAlike_init_name ?fn_NotAlike_init_tables ?fa_Rests_init ?fl_Rests_init ?fc_Rests_init ?fk_Rests_init ?ft_Rests_init ?fn_Rests_init_name ?fn_Rests_init_tables ?fa_BrokenFact_init ?fl_BrokenFact_init ?fc_BrokenFact_init ?fk_BrokenFact_init ?ft_BrokenFact_init ?fn_BrokenFact_init_fact ?fa_copied ?fl_copied ?fc_copied ?fk_copied ?fa_begun_pen ?fl_begun_pen ?fc_begun_pen ?fk_begun_pen ?fa_draw ?fl_draw ?fc_draw ?fk_draw ?fa_shuffled ?fl_shuffled ?fc_shuffled ?fk_shuffled ?fa_new_names ?fl_new_names ?fc_new_names ?fk_new_names ?fa_new_integer ?fl_new_integer ?fc_new_integer ?fk_new_integer ?fa_classes ?fl_classes ?fc_classes ?fk_classes ?fa_numbered ?fl_numbered ?fc_numbered ?fk_numbered ?fa_texted ?fl_texted ?fc_texted ?fk_texted ?fa_shown ?fl_shown ?fc_shown ?fk_shown ?fa_law ?fl_law ?fc_law ?fk_law, fun s v => .of_eq rfl⟩
    (case z_isinstance => k_is)
    (case z_dict => k_is)
    (case z_list => k_is)
    (case z_int => k_is)
    (case z_len => k_is)
    (case z_abs => k_is)
    (case z_ValueError => k_is)
    (case z_range => k_is)
    (case gn => k_is)
    (case gt => k_is)
    (case xa_LookError => k_is)
    (case xl_LookError => k_is)
    (case xs_LookError => k_is)
    (case xg_LookError => k_is)
    (case xt_LookError => k_is)
    (case xc_LookError => k_is)
    (case xk_LookError => k_is)
    (case xe_LookError => k_exc)
    (case xa_BadTables => k_is)
    (case xl_BadTables => k_is)
    (case xs_BadTables => k_is)
    (case xg_BadTables => k_is)
    (case xt_BadTables => k_is)
    (case xc_BadTables => k_is)
    (case xk_BadTables => k_is)
    (case xa_BadFact => k_is)
    (case xl_BadFact => k_is)
    (case xs_BadFact => k_is)
    (case xg_BadFact => k_is)
    (case xt_BadFact => k_is)
    (case xc_BadFact => k_is)
    (case xk_BadFact => k_is)
    (case xa_BadProgram => k_is)
    (case xl_BadProgram => k_is)
    (case xs_BadProgram => k_is)
    (case xg_BadProgram => k_is)
    (case xt_BadProgram => k_is)
    (case xc_BadProgram => k_is)
    (case xk_BadProgram => k_is)
    (case xa_OtherTables => k_is)
    (case xl_OtherTables => k_is)
    (case xs_OtherTables => k_is)
    (case xg_OtherTables => k_is)
    (case xt_OtherTables => k_is)
    (case xc_OtherTables => k_is)
    (case xk_OtherTables => k_is)
    (case xe_OtherTables => k_exc)
    (case xa_NoLine => k_is)
    (case xl_NoLine => k_is)
    (case xs_NoLine => k_is)
    (case xg_NoLine => k_is)
    (case xt_NoLine => k_is)
    (case xc_NoLine => k_is)
    (case xk_NoLine => k_is)
    (case xa_NoKey => k_is)
    (case xl_NoKey => k_is)
    (case xs_NoKey => k_is)
    (case xg_NoKey => k_is)
    (case xt_NoKey => k_is)
    (case xc_NoKey => k_is)
    (case xk_NoKey => k_is)
    (case xa_NoName => k_is)
    (case xl_NoName => k_is)
    (case xs_NoName => k_is)
    (case xg_NoName => k_is)
    (case xt_NoName => k_is)
    (case xc_NoName => k_is)
    (case xk_NoName => k_is)
    (case xa_BadName => k_is)
    (case xl_BadName => k_is)
    (case xs_BadName => k_is)
    (case xg_BadName => k_is)
    (case xt_BadName => k_is)
    (case xc_BadName => k_is)
    (case xk_BadName => k_is)
    (case xa_Taken => k_is)
    (case xl_Taken => k_is)
    (case xs_Taken => k_is)
    (case xg_Taken => k_is)
    (case xt_Taken => k_is)
    (case xc_Taken => k_is)
    (case xk_Taken => k_is)
    (case xa_NotAlike => k_is)
    (case xl_NotAlike => k_is)
    (case xs_NotAlike => k_is)
    (case xg_NotAlike => k_is)
    (case xt_NotAlike => k_is)
    (case xc_NotAlike => k_is)
    (case xk_NotAlike => k_is)
    (case xa_Rests => k_is)
    (case xl_Rests => k_is)
    (case xs_Rests => k_is)
    (case xg_Rests => k_is)
    (case xt_Rests => k_is)
    (case xc_Rests => k_is)
    (case xk_Rests => k_is)
    (case xa_BrokenFact => k_is)
    (case xl_BrokenFact => k_is)
    (case xs_BrokenFact => k_is)
    (case xg_BrokenFact => k_is)
    (case xt_BrokenFact => k_is)
    (case xc_BrokenFact => k_is)
    (case xk_BrokenFact => k_is)
    (case xa_NothingToUndo => k_is)
    (case xl_NothingToUndo => k_is)
    (case xs_NothingToUndo => k_is)
    (case xg_NothingToUndo => k_is)
    (case xt_NothingToUndo => k_is)
    (case xc_NothingToUndo => k_is)
    (case xk_NothingToUndo => k_is)
    (case xe_NothingToUndo => k_exc)
    (case fa_BadTables_init => k_is)
    (case fl_BadTables_init => k_is)
    (case fc_BadTables_init => k_is)
    (case fk_BadTables_init => k_is)
    (case ft_BadTables_init => k_is)
    (case fn_BadTables_init_table => k_is)
    (case fa_BadFact_init => k_is)
    (case fl_BadFact_init => k_is)
    (case fc_BadFact_init => k_is)
    (case fk_BadFact_init => k_is)
    (case ft_BadFact_init => k_is)
    (case fn_BadFact_init_index => k_is)
    (case fa_BadProgram_init => k_is)
    (case fl_BadProgram_init => k_is)
    (case fc_BadProgram_init => k_is)
    (case fk_BadProgram_init => k_is)
    (case ft_BadProgram_init => k_is)
    (case fn_BadProgram_init_line => k_is)
    (case fa_NoLine_init => k_is)
    (case fl_NoLine_init => k_is)
    (case fc_NoLine_init => k_is)
    (case fk_NoLine_init => k_is)
    (case ft_NoLine_init => k_is)
    (case fn_NoLine_init_line => k_is)
    (case fa_NoKey_init => k_is)
    (case fl_NoKey_init => k_is)
    (case fc_NoKey_init => k_is)
    (case fk_NoKey_init => k_is)
    (case ft_NoKey_init => k_is)
    (case fn_NoKey_init_line => k_is)
    (case fa_NoName_init => k_is)
    (case fl_NoName_init => k_is)
    (case fc_NoName_init => k_is)
    (case fk_NoName_init => k_is)
    (case ft_NoName_init => k_is)
    (case fn_NoName_init_name => k_is)
    (case fa_BadName_init => k_is)
    (case fl_BadName_init => k_is)
    (case fc_BadName_init => k_is)
    (case fk_BadName_init => k_is)
    (case ft_BadName_init => k_is)
    (case fn_BadName_init_name => k_is)
    (case fa_Taken_init => k_is)
    (case fl_Taken_init => k_is)
    (case fc_Taken_init => k_is)
    (case fk_Taken_init => k_is)
    (case ft_Taken_init => k_is)
    (case fn_Taken_init_name => k_is)
    (case fa_NotAlike_init => k_is)
    (case fl_NotAlike_init => k_is)
    (case fc_NotAlike_init => k_is)
    (case fk_NotAlike_init => k_is)
    (case ft_NotAlike_init => k_is)
    (case fn_NotAlike_init_name => k_is)
    (case fn_NotAlike_init_tables => k_is)
    (case fa_Rests_init => k_is)
    (case fl_Rests_init => k_is)
    (case fc_Rests_init => k_is)
    (case fk_Rests_init => k_is)
    (case ft_Rests_init => k_is)
    (case fn_Rests_init_name => k_is)
    (case fn_Rests_init_tables => k_is)
    (case fa_BrokenFact_init => k_is)
    (case fl_BrokenFact_init => k_is)
    (case fc_BrokenFact_init => k_is)
    (case fk_BrokenFact_init => k_is)
    (case ft_BrokenFact_init => k_is)
    (case fn_BrokenFact_init_fact => k_is)
    (case fa_copied => k_is)
    (case fl_copied => k_is)
    (case fc_copied => k_is)
    (case fk_copied => k_is)
    (case fa_begun_pen => k_is)
    (case fl_begun_pen => k_is)
    (case fc_begun_pen => k_is)
    (case fk_begun_pen => k_is)
    (case fa_draw => k_is)
    (case fl_draw => k_is)
    (case fc_draw => k_is)
    (case fk_draw => k_is)
    (case fa_shuffled => k_is)
    (case fl_shuffled => k_is)
    (case fc_shuffled => k_is)
    (case fk_shuffled => k_is)
    (case fa_new_names => k_is)
    (case fl_new_names => k_is)
    (case fc_new_names => k_is)
    (case fk_new_names => k_is)
    (case fa_new_integer => k_is)
    (case fl_new_integer => k_is)
    (case fc_new_integer => k_is)
    (case fk_new_integer => k_is)
    (case fa_classes => k_is)
    (case fl_classes => k_is)
    (case fc_classes => k_is)
    (case fk_classes => k_is)
    (case fa_numbered => k_is)
    (case fl_numbered => k_is)
    (case fc_numbered => k_is)
    (case fk_numbered => k_is)
    (case fa_texted => k_is)
    (case fl_texted => k_is)
    (case fc_texted => k_is)
    (case fk_texted => k_is)
    (case fa_shown => k_is)
    (case fl_shown => k_is)
    (case fc_shown => k_is)
    (case fk_shown => k_is)
    (case fa_law => k_is)
    (case fl_law => k_is)
    (case fc_law => k_is)
    (case fk_law => k_is)
#print axioms PySem.Challenge.cw_lookuploops_k43_errors_holds

