import PyProof.Rows.All
import Wide.All
import OpenK.AllK
import Wide.FinOn
import PyProof.EqAt
import PyProof.EqKinds
import PyProof.TupleCall
import KE.KExcIs
import HandS.ForMost
import HandS.Exc
import HandS.ExcOwn
import HandS.ExcInit
import HandS.ExcValue
import HandS.ExcField
import HandS.ExcIs
import HandS.IsInst
import HandS.Wide
import HandS.DictComp
import HandS.GenCall
import HandS.GenList
import HandS.EndTab
import PyProof.EnumMake
import PyProof.Draws
import HandS.Iter
import HandS.Strs
import HandS.SetKeys
import HandS.OwnIter
import HandS.IterVal
import KE.KDictList
import PyProof.TupleOfSeq
import KE.GoesEnum
import HandS.Walk
import HandS.Text
import HandS.ForExc
import HandS.WordsExc
import PyProof.P3Eq
import HandS.TupSets
import PyProof.Rows.SetFrom
import HandS.TupMul
import HandS.DictTup
import KE.KDictDisplayH
import HandS.Property
import HandS.Deep
import HandS.TryOnly
import HandS.Style
import PySem.Challenge.RW_lookuploops_k13_whole_implied
set_option Elab.async false
set_option linter.all false
set_option maxRecDepth 100000
set_option maxHeartbeats 2000000
/-! Errors as values: made by a call, asked by isinstance, their fields read. -/
namespace L2.Ev
open PySem PySem.Spec PyProof.Rows

/-- an error of the class at C stands at a -/
def IsEx (H : Hp) (a C : Addr) : Prop :=
  (∃ dx fs, H a = some (exo a C (some dx)) ∧ H dx = some (exd dx fs)) ∨ H a = some (ExO (.ref C) a)

theorem IsEx.inst {X : Cx} {pins : List (Addr × Obj)} {σ : St} {H : Hp} {s : Shared} {a C : Addr} (I : Inv X pins σ H s) (e : IsEx H a C) :
    ∃ ox od, PySem.W.InstAt s.heap a ox C od := by
  rcases e with ⟨dx, fs, ea, ed⟩ | ea
  · obtain ⟨t1, ho⟩ := exo_at I.hok ea
    obtain ⟨mA, hns, _⟩ := exd_at I.hok ed
    obtain ⟨od, hd, _⟩ := lookIn_ns hns
    exact ⟨_, some od, ho, rfl, rfl, hd⟩
  · have x : ObjOk X.prog X.w H s.heap a (ExO (.ref C) a) := I.hok a _ ea
    obtain ⟨⟨oe, vs, h1, hz, hd, _⟩, _⟩ := x
    refine ⟨oe, none, h1, hz.1, ?_, ?_⟩
    · unfold PySem.W.notCls
      rw [hd]
    · rw [hz.2]
      trivial

/-- isinstance(e, c), e an error held as a value -/
def rIsV (K : PySem.W.Frag) : List V → Hp → VK → Prop := fun xs H Q =>
  ∃ (a C : Addr) (c : V) (u : Value) (b : Bool), xs = [.ref a, c] ∧ ClsV c u ∧ IsEx H a C ∧ ExcC K C ∧ PySem.W.kitOne K (.ref C) u = some b ∧ Q (.bl b) H
theorem call_isV {X : Cx} : CallR X (.builtin "isinstance") (rIsV X.K) := by
  intro pins s σ H xs us Q I r h
  obtain ⟨a, C, c, u, b, rfl, hc, hx, T, e, q⟩ := h
  obtain ⟨u1, u2, rfl, r1, r2⟩ := vals2 r
  cases (show u1 = Value.ref a from r1)
  have e2 := hc.eq r2
  subst e2
  obtain ⟨ox, od, J⟩ := hx.inst I
  have hcl : (PySem.W.clsIn X.K C).isSome = true := by
    obtain ⟨cd, hcd, _⟩ := PySem.W.any_some T.hd
    rw [hcd]
    rfl
  exact PySem.W.kia_one (PySem.W.kitx_exc (od := od) (ox := ox) hcl T.hg T.hk T.hs T.ha T.hn T.ht T.hm) I.kIn J e (fun z => nomatch z) fun tk => ⟨.bl b, H, I.tok tk, rfl, q⟩

/-- e.f, e an error with a dict -/
def tXv (K : PySem.W.Frag) (n : Str) (te : TE) : TE := fun σ H Q => te σ H fun x H1 =>
  ∃ (a C dx : Addr) (fs : List (Str × V)) (v : V), x = .ref a ∧ H1 a = some (exo a C (some dx)) ∧ H1 dx = some (exd dx fs) ∧ XfC K C ∧ PySem.W.findIn K (.ref C) n = some none ∧ fs.lookup n = some v ∧ Q v H1
theorem pe_xv {X : Cx} {e : Expr} {te : TE} {pos : Pos} {n : Str} (he : PE X e te) (hb : attributeBase e n X.env (eval e X.env) = eval e X.env := by rfl) : PE X (.Attribute e n pos) (tXv X.K n te) := by
  refine ⟨fun pins s σ H Q I h => ?_⟩
  refine attr_of hb (thn (he.run pins s σ H _ I h) fun u s1 ⟨x, H1, I1, rx, a, C, dx, fs, v, ex, ea, ed, T, hno, l, q⟩ => ?_)
  subst ex
  cases (show u = Value.ref a from rx)
  obtain ⟨t1, ho⟩ := exo_at I1.hok ea
  obtain ⟨mA, hns, hr⟩ := exd_at I1.hok ed
  obtain ⟨od, hod, hl⟩ := lookIn_ns hns
  obtain ⟨u, hu, ru⟩ := RelO.some_of (v := v) (o := mA n) (by rw [← l]; exact hr n)
  have J : PySem.W.InstAt s1.heap a _ C (some od) := ⟨ho, rfl, rfl, hod⟩
  exact HandSPX.exc_get I1.kIn J T.ga T.gg T.exC (PySem.W.findObj_own T.hdC hno rfl (by rw [hl, hu])) (handed_of ru) ⟨v, H1, I1.tok _, ru, q⟩

/-- C(e, ..) as a value, C's own __init__ keeping sp -/
def tMkV (C : Addr) (sp : Sp) (ta : TA) : TE := fun σ H Q => ta σ H fun vs H1 => vs.length ≤ 1000 ∧ ∀ a, H1 a = none →
  sp (.ref a :: vs) (upd H1 a (exo a C none)) (fun v H2 => v = .non ∧ Q (.ref a) H2) (fun _ _ _ => False)
theorem pe_mkV {X : Cx} {x : Str} {C fI : Addr} {k : Nat} {fd : FuncData} {ps : List Str} {sp : Sp} {e : Expr} {es : List Expr} {ta : TA} {p pos : Pos} (T : OexC X.K C)
    (iC : PySem.W.findIn X.K (.ref C) "__init__" = some (some (.ref fI))) (tI : PySem.W.typeIn X.K (.ref fI) = some (.type "function"))
    (F1 : FnOk X.prog X.w X.K X.mg X.base CX0 k fI fd ps sp) (hr : Room (k + 1) X.A) (hb : Binds X.K fd ps []) (hg : Gl X x) (hm : X.mg x = some (.ref C)) (ha : PA X (e :: es) ta)
    (hdb : (x == ("__debug__" : Str)) = false := by decide) (he : starEach (e :: es) X.env = (false, eval e X.env) :: starEach es X.env := by rfl) (hpl : (backTo pos (starEach es X.env)).any (·.1) = false := by rfl) :
    PE X (.Call (.Name x p) (e :: es) [] pos) (tMkV C sp ta) := by
  refine ⟨fun pins s σ H Q I h => ?_⟩
  obtain ⟨nm, q, N, bs, bm, sn, sub, ab, col, dd, k0, k1, k2, k3, k5, hC, hbm⟩ := T.cls
  refine wpAny_Call_Name_kw (ld_glob I hg hm ?_ hdb)
  refine PySem.W.callWith_K (h₀ := X.base) I.ok.mod.kin T.kC (thn (ha.run pos pins s σ H _ I h) fun us s1 ⟨vs, H1, I1, r1, hz, q1⟩ => ⟨I1.kIn, ?_⟩) he hpl
  show wpAny _ _ (call (.ref C) us) _ _ _
  obtain ⟨hp, g, dr, tk, os⟩ := s1
  have hsz : hp.objs.size ≤ hp.objs.size + 1 := Nat.le_succ _
  have hn : H1 (hp.objs.size + 1) = none := I1.hok.fresh hsz
  have hq := q1 (hp.objs.size + 1) hn
  have kk : ∀ b o, hp.get? b = some o → ((hp.push (PySem.W.kdv_tup us)).push (PySem.HandSPX.excO C hp.objs.size)).get? b = some o :=
    fun b o z => Heap.get?_push_of_some _ (Heap.get?_push_of_some _ z)
  have hget : ((hp.push (PySem.W.kdv_tup us)).push (PySem.HandSPX.excO C hp.objs.size)).get? (hp.objs.size + 1) = some (PySem.HandSPX.excO C hp.objs.size) := by heap_get
  generalize hpp : (hp.push (PySem.W.kdv_tup us)).push (PySem.HandSPX.excO C hp.objs.size) = hp1 at kk hget
  have I2 : Inv X pins σ (upd H1 (hp.objs.size + 1) (exo (hp.objs.size + 1) C none)) ⟨hp1, g, dr, tk, os⟩ := I1.laid (t' := tk) kk hsz (exo_ok hget)
  have r2 : Vals (V.ref (hp.objs.size + 1) :: vs) (Value.ref (hp.objs.size + 1) :: us) := .cons rfl r1
  have hl : (Value.ref (hp.objs.size + 1) :: us ++ []).length = ps.length := by
    rw [List.append_nil, ← r2.length]
    exact F1.len _ _ _ _ hq
  have hus : us.length ≤ sizeLine := by
    rw [← Paired.length r1, sizeLine_eq]
    omega
  have hb' := hb ⟨hp1, g, dr, tk, os⟩ (Value.ref (hp.objs.size + 1) :: us) I2.kIn (by rw [List.append_nil] at hl; rw [← hl]; first | rfl | simp)
  rw [List.append_nil] at hb'
  refine wpAny_call (PySem.HandSPX.call_own F.excBase_ValueError (fun Y => PySem.HandSPX.refsVE_contains Y bm hbm) (I1.kIn _ _ hC) (PySem.W.looks_findIn I1.kIn iC) (fun self => PySem.W.bind_fn I1.kIn self tI) hus ?_)
  rw [hpp]
  refine codeAny_mono (F1.run _ X.stack _ _ ⟨Value.ref (hp.objs.size + 1) :: us, []⟩ (Value.ref (hp.objs.size + 1) :: us) _ _ (fun _ _ _ => False) (hr.make C us []) (I2.env0.make C us []) hb' r2 hq) fun r s' hq' => ?_
  cases r with
  | error er => exact absurd hq' (fun z => z)
  | ok fl =>
    cases fl with
    | ret u =>
      obtain ⟨v, H2, os2, bare2, un2, hok2, rv, q2⟩ := hq'
      have I4 : Inv X pins σ H2 s' := I2.call' (ch := []) os2 un2 hok2 bare2 (fun b z => absurd z (by simp))
      obtain ⟨h2, g2, d2, t2, os'⟩ := s'
      obtain ⟨rfl, q3⟩ := q2
      exact ⟨rv, .ref (hp.objs.size + 1), H2, I4, rfl, q3⟩
    | next => exact False.elim hq'
    | brk => exact False.elim hq'
    | cont => exact False.elim hq'

/-- C() as a value, C an own error class without own __init__, no arguments -/
theorem pe_mkV0 {X : Cx} {C : Addr} {bmB : List Value} {B newId initId : String} {x : Str} {p pos : Pos} (F : ExcBaseFacts B newId initId bmB) (q : PySem.W.excIn X.K C bmB newId = true) (gC : X.mg x = some (.ref C)) (kC : PySem.W.keepIn X.K (.ref C) = true) (hg : Gl X x)
    (hdb : (x == ("__debug__" : Str)) = false := by decide) :
    PE X (.Call (.Name x p) [] [] pos) (fun σ H Q => ∀ a, H a = none → Q (.ref a) (upd H a (ExO (.ref C) a))) := by
  refine ⟨fun pins s σ H Q I h => ?_⟩
  refine wpAny_Call_Name_kw (ld_glob I hg gC ?_ hdb)
  refine PySem.W.callWith_K0 I.kIn kC ?_
  obtain ⟨hp, g, d, t, os⟩ := s
  obtain ⟨bm, N, nm, qn, bs, hdct, sn, sub, ab, col, dd, k0, k1, k2, k3, k5, mN, hC, hN, hni, T⟩ := exc_obj I.kIn q
  refine wpAny_call_exc_subT F T hC hN hni (fun h' a hm => ?_) (by show 0 ≤ sizeLine; omega)
  have hn : H a = none := I.hok.gone hm.new
  obtain ⟨t, ht, _, _⟩ := hm.there
  exact ⟨.ref a, upd H a (ExO (.ref C) a), I.laidN hm.keeps hm.new hn (exO_ok ht ⟨rfl, rfl⟩ rfl rfl rfl (show 4 < 6 by decide)), rfl, h a hn⟩
/-- self.f = e of an error: the first field, a further one -/
theorem exd_two {H : Hp} {a dx C : Addr} {y z : V} {f g : Str} (n : H dx = none) (ne : dx ≠ a) :
    IsEx (upd (upd (upd H dx (exd dx [(f, y)])) a (exo a C (some dx))) dx (exd dx [(g, z), (f, y)])) a C :=
  .inl ⟨dx, _, by rw [upd_ne (Ne.symm ne), upd_same], upd_same⟩

/-! ### what the top has left of an error class -/
/-- an error class of the program, named nm; up: what its order of look-up holds behind it -/
structure XC (K : PySem.W.Frag) (mg : Str → Option Value) (nm : Str) (up : List Value) where
  C : Addr
  g : mg nm = some (.ref C)
  look : ∃ q N bs sn sub ab col dd k0 k1 k2 k3 k5, K.lookup C = some (excClassObj nm q C N bs up true sn sub ab col dd k0 k1 k2 k3 k5 "ValueError.__new__")
  ve : HandSPX.refsVE up = true
  sa : PySem.W.findIn K (.ref C) "__setattr__" = some (some (.builtin "object.__setattr__"))
  ga : PySem.W.findIn K (.ref C) "__getattribute__" = some (some (.builtin "BaseException.__getattribute__"))
  gg : PySem.W.findIn K (.ref C) "__getattr__" = some none
  cc : PySem.W.findIn K (.ref C) "__class__" = some (some (.builtin "object.__class__"))
  kp : PySem.W.keepIn K (.ref C) = true
  gn : PySem.W.specialIn K (.builtin "object.__class__") "__get__" = some (some (.builtin "getset_descriptor.__get__"))
  gt : PySem.W.takesIn K (.builtin "object.__class__") = some true
section
variable {K : PySem.W.Frag} {mg : Str → Option Value} {nm nm' : Str} {up up' : List Value}
theorem XC.cd (x : XC K mg nm up) : ∃ cd, PySem.W.clsIn K x.C = some cd ∧ cd.name = nm ∧ cd.mro = .ref x.C :: up ∧ cd.hasDict = true := by
  obtain ⟨q, N, bs, sn, sub, ab, col, dd, k0, k1, k2, k3, k5, h⟩ := x.look
  refine ⟨_, by unfold PySem.W.clsIn; rw [h], rfl, rfl, rfl⟩
theorem XC.sub (x : XC K mg nm up) (v : Value) : PySem.W.subIn K (.ref x.C) v = some ((Value.ref x.C :: up).contains v) := by
  obtain ⟨cd, h, _, hm, _⟩ := x.cd
  show PySem.W.mroIn K x.C v = _
  unfold PySem.W.mroIn
  rw [h, Option.bind_some, hm]
  rfl
theorem XC.type (x : XC K mg nm up) (T : String) : (Value.ref x.C :: up).contains (.type T) = HandSPX.veTail.contains (.type T) := by
  have e : HandSPX.refsVE (Value.ref x.C :: up) = true := x.ve
  exact HandSPX.refsVE_contains T _ e
theorem XC.ty (x : XC K mg nm up) : PySem.W.typeIn K (.ref x.C) = some (.type "type") := by
  obtain ⟨q, N, bs, sn, sub, ab, col, dd, k0, k1, k2, k3, k5, h⟩ := x.look
  show (K.lookup x.C).map (·.cls) = _
  rw [h]
  rfl
theorem XC.exB (x : XC K mg nm up) : PySem.W.subIn K (.ref x.C) (.type "BaseException") = some true := by
  rw [x.sub, x.type]
  decide +kernel
theorem XC.hd (x : XC K mg nm up) : PySem.W.hasDictIn K x.C = true := by
  obtain ⟨cd, h, _, _, hd⟩ := x.cd
  unfold PySem.W.hasDictIn
  rw [h]
  exact hd
theorem XC.ob (x : XC K mg nm up) : PySem.W.mroIn K x.C (.type "object") = some true := by
  have e := x.sub (.type "object")
  rw [x.type] at e
  exact e.trans (by decide +kernel)
theorem XC.oex (x : XC K mg nm up) : OexC K x.C := by
  obtain ⟨q, N, bs, sn, sub, ab, col, dd, k0, k1, k2, k3, k5, h⟩ := x.look
  exact ⟨⟨nm, q, N, bs, up, sn, sub, ab, col, dd, k0, k1, k2, k3, k5, h, x.ve⟩, x.sa, x.exB, x.ty, x.kp⟩
theorem XC.exc (x : XC K mg nm up) : ExcC K x.C := ⟨x.ga, x.gg, x.exB, x.hd, x.cc, x.gn, x.gt, x.ob⟩
theorem XC.xfc (x : XC K mg nm up) : XfC K x.C := ⟨x.ga, x.gg, x.exB, x.hd⟩
/-- classes of unlike names are unlike -/
theorem XC.ne (x : XC K mg nm up) (y : XC K mg nm' up') (h : nm ≠ nm') : x.C ≠ y.C := fun e => by
  obtain ⟨c, h1, h2, _⟩ := x.cd
  obtain ⟨d, h3, h4, _⟩ := y.cd
  rw [e, h3] at h1
  cases h1
  exact h (h2.symm.trans h4)
theorem XC.kit (x : XC K mg nm up) (y : XC K mg nm' up') : PySem.W.kitOne K (.ref x.C) (.ref y.C) = some ((Value.ref x.C :: up).contains (.ref y.C)) := by
  unfold PySem.W.kitOne
  by_cases e : x.C = y.C
  · rw [if_pos (by rw [e]; simp), List.contains_cons, e]
    simp
  · have n : ¬ (Value.ref x.C == Value.ref y.C) = true := fun z => e (Value.ref.inj (beq_iff_eq.mp z))
    rw [if_neg n]
    show (if ((PySem.W.clsIn K y.C).isSome && PySem.W.typeIn K (.ref y.C) == some (.type "type")) = true then PySem.W.subIn K (.ref x.C) (.ref y.C) else none) = _
    obtain ⟨cd, hc, _⟩ := y.cd
    rw [hc, y.ty, if_pos (by rfl), x.sub]
theorem XC.kitV (x : XC K mg nm up) : PySem.W.kitOne K (.ref x.C) (.type "ValueError") = some true := by
  unfold PySem.W.kitOne
  rw [if_neg (by simp)]
  show (if PySem.W.kitMeta "ValueError" = true then PySem.W.subIn K (.ref x.C) (.type "ValueError") else none) = _
  rw [if_pos (by decide +kernel), x.sub, x.type]
  decide +kernel
end
end L2.Ev
namespace L2.Ev
open PySem PySem.Spec PyProof.Rows
section
variable {X : Cx}
/-- a list beside the empty list: no item is asked -/
def rNil (K : PySem.W.Frag) (f : Bool → Bool) : R2 := fun x y H Q => ∃ a b xs, x = .ref a ∧ y = .ref b ∧ SqL K H a xs ∧ SqL K H b [] ∧ Q (.bl (f xs.isEmpty)) H
theorem op_neNil (hu : X.A.units < cLine) : OpR X (compareOp .NotEq) (rNil X.K fun e => !e) := by
  intro pins s σ H x y v u Q I rx ry h
  obtain ⟨a, b, xs, rfl, rfl, ha, hb, q⟩ := h
  cases (show v = Value.ref a from rx)
  cases (show u = Value.ref b from ry)
  obtain ⟨i1, r1, p1, _⟩ := I.list ha
  obtain ⟨i2, r2, p2, _⟩ := I.list hb
  cases r2
  cases xs with
  | nil =>
    cases r1
    exact SeqAt.RcNeAt.lists (e := fun _ => true) p1.isList p2.isList rfl hu (fun j h1 _ => absurd h1 (by simp)) X.prog X.w _ _ ⟨.bl false, H, I, rfl, q⟩
  | cons z zs =>
    cases r1
    exact SeqAt.RcNeAt.lists_lengths p1.isList p2.isList (by simp) hu X.prog X.w _ _ ⟨.bl true, H, I, rfl, q⟩
theorem op_eqNil (hu : X.A.units < cLine) : OpR X (compareOp .Eq) (rNil X.K fun e => e) := by
  intro pins s σ H x y v u Q I rx ry h
  obtain ⟨a, b, xs, rfl, rfl, ha, hb, q⟩ := h
  cases (show v = Value.ref a from rx)
  cases (show u = Value.ref b from ry)
  obtain ⟨i1, r1, p1, _⟩ := I.list ha
  obtain ⟨i2, r2, p2, _⟩ := I.list hb
  cases r2
  cases xs with
  | nil =>
    cases r1
    exact SeqAt.RcAt.lists (e := fun _ => true) p1.isList p2.isList rfl hu (fun j h1 _ => absurd h1 (by simp)) X.prog X.w _ _ ⟨.bl true, H, I, rfl, q⟩
  | cons z zs =>
    cases r1
    exact SeqAt.RcAt.lists_lengths p1.isList p2.isList (by simp) hu X.prog X.w _ _ ⟨.bl false, H, I, rfl, q⟩
end
/-- all but p is as it was -/
def But (p : Addr) (H H' : Hp) : Prop := ∀ b o, b ≠ p → H b = some o → H' b = some o
theorem But.refl (p : Addr) (H : Hp) : But p H H := fun _ _ _ h => h
theorem But.trans {p : Addr} {H H1 H2 : Hp} (a : But p H H1) (b : But p H1 H2) : But p H H2 := fun c o n h => b c o n (a c o n h)
theorem But.of {p : Addr} {H H' : Hp} (a : Same H H') : But p H H' := fun b o _ h => a b o h
theorem But.new {p q : Addr} {H H1 : Hp} {o : HO} (a : But p H H1) (h : H1 q = none) : But p H (upd H1 q o) := fun b u n e => by
  have z := a b u n e
  rw [upd_ne (ne_of_none z h)]
  exact z
theorem But.own {p q : Addr} {H H1 : Hp} {o : HO} (a : But p H H1) (h : H q = none) : But p H (upd H1 q o) := fun b u n e => by
  rw [upd_ne (ne_of_none e h)]
  exact a b u n e
theorem But.self {p : Addr} {H H1 : Hp} {o : HO} (a : But p H H1) : But p H (upd H1 p o) := fun b u n e => by
  rw [upd_ne n]
  exact a b u n e
theorem Same.new {q : Addr} {H H1 : Hp} {o : HO} (a : Same H H1) (h : H1 q = none) : Same H (upd H1 q o) := fun b u e => by
  have z := a b u e
  rw [upd_ne (ne_of_none z h)]
  exact z
theorem Same.own {q : Addr} {H H1 : Hp} {o : HO} (a : Same H H1) (h : H q = none) : Same H (upd H1 q o) := fun b u e => by
  rw [upd_ne (ne_of_none e h)]
  exact a b u e
/-- what is free in a grown heap was free -/
theorem But.free {p q : Addr} {H H1 : Hp} {o : HO} (a : But p H H1) (hp : H1 p = some o) (h : H1 q = none) : H q = none := by
  cases e : H q with
  | none => rfl
  | some u =>
    by_cases z : q = p
    · rw [z, hp] at h
      cases h
    · rw [a q u z e] at h
      cases h
/-! ### the law's pen: a dict of the cells, the turn, what is left of a large cell -/
def penD (c : Addr) (t l : Int) : List (Key × V) := [(Sum.inr ("cells" : Str), .ref c), (Sum.inr ("turn" : Str), .int t), (Sum.inr ("left" : Str), .int l)]
structure Pen (H : Hp) (p c : Addr) (ns : List Int) (n : Nat) : Prop where
  d : ∃ t l : Int, H p = some (.dK (penD c t l)) ∧ 0 ≤ t ∧ t ≤ (n : Int)
  cells : H c = some (.lst (ns.map V.int))
  len : ns.length ≤ 63
section
variable {H H' : Hp} {p c q : Addr} {ns : List Int} {n : Nat} {t l z : Int} {o : HO}
theorem sne1 : ¬ ("cells" : Str) = ("turn" : Str) := by decide +kernel
theorem sne2 : ¬ ("cells" : Str) = ("left" : Str) := by decide +kernel
theorem sne3 : ¬ ("turn" : Str) = ("left" : Str) := by decide +kernel
theorem sne4 : ¬ ("left" : Str) = ("turn" : Str) := by decide +kernel
theorem kne1 : ¬ (Sum.inr ("cells" : Str) : Key) = Sum.inr ("turn" : Str) := by decide +kernel
theorem kne2 : ¬ (Sum.inr ("cells" : Str) : Key) = Sum.inr ("left" : Str) := by decide +kernel
theorem kne3 : ¬ (Sum.inr ("turn" : Str) : Key) = Sum.inr ("left" : Str) := by decide +kernel
theorem kne4 : ¬ (Sum.inr ("left" : Str) : Key) = Sum.inr ("turn" : Str) := by decide +kernel
theorem pen_cells (h : H p = some (.dK (penD c t l))) : DGet H p (.str ("cells" : Str)) (some (.ref c)) := by
  have e := DGet.k (k := Sum.inr ("cells" : Str)) h
  rw [show valV (penD c t l) (Sum.inr ("cells" : Str)) = some (.ref c) from valV_pos rfl] at e
  exact e
theorem pen_turn (h : H p = some (.dK (penD c t l))) : DGet H p (.str ("turn" : Str)) (some (.int t)) := by
  have e := DGet.k (k := Sum.inr ("turn" : Str)) h
  rw [show valV (penD c t l) (Sum.inr ("turn" : Str)) = some (.int t) from (valV_neg kne1).trans (valV_pos rfl)] at e
  exact e
theorem pen_left (h : H p = some (.dK (penD c t l))) : DGet H p (.str ("left" : Str)) (some (.int l)) := by
  have e := DGet.k (k := Sum.inr ("left" : Str)) h
  rw [show valV (penD c t l) (Sum.inr ("left" : Str)) = some (.int l) from (valV_neg kne2).trans ((valV_neg kne3).trans (valV_pos rfl))] at e
  exact e
theorem pen_put_turn (h : H p = some (.dK (penD c t l))) : DPut H p (.str ("turn" : Str)) (.int z) (upd H p (.dK (penD c z l))) := by
  have e := DPut.k (k := Sum.inr ("turn" : Str)) (v := .int z) h (show 3 < sizeLine by decide)
  rw [show putK (penD c t l) (Sum.inr ("turn" : Str)) (V.int z) = penD c z l from by
    unfold putK penD
    simp [sne1, sne4]] at e
  exact e
theorem pen_put_left (h : H p = some (.dK (penD c t l))) : DPut H p (.str ("left" : Str)) (.int z) (upd H p (.dK (penD c t z))) := by
  have e := DPut.k (k := Sum.inr ("left" : Str)) (v := .int z) h (show 3 < sizeLine by decide)
  rw [show putK (penD c t l) (Sum.inr ("left" : Str)) (V.int z) = penD c t z from by
    unfold putK penD
    simp [sne2, sne3]] at e
  exact e
theorem Pen.ne (h : Pen H p c ns n) : c ≠ p := fun e => by
  obtain ⟨⟨t, l, h1, _⟩, h2, _⟩ := h
  rw [e, h1] at h2
  cases h2
theorem Pen.upd (h : Pen H p c ns n) (h1 : q ≠ p) (h2 : q ≠ c) : Pen (upd H q o) p c ns n := by
  obtain ⟨⟨t, l, h3, h4⟩, h5, h6⟩ := h
  exact ⟨⟨t, l, by rw [upd_ne (Ne.symm h1)]; exact h3, h4⟩, by rw [upd_ne (Ne.symm h2)]; exact h5, h6⟩
theorem Pen.new (h : Pen H p c ns n) (hq : H q = none) : Pen (L2.upd H q o) p c ns n := by
  obtain ⟨t, l, h3, h4⟩ := h.d
  exact h.upd (Ne.symm (ne_of_none h3 hq)) (Ne.symm (ne_of_none h.cells hq))
theorem Pen.same (h : Pen H p c ns n) (k : Same H H') : Pen H' p c ns n := by
  obtain ⟨⟨t, l, h3, h4⟩, h5, h6⟩ := h
  exact ⟨⟨t, l, k _ _ h3, h4⟩, k _ _ h5, h6⟩
theorem Pen.mono {m : Nat} (h : Pen H p c ns n) (k : n ≤ m) : Pen H p c ns m := by
  obtain ⟨⟨t, l, h3, h4, h5⟩, h6, h7⟩ := h
  exact ⟨⟨t, l, h3, h4, by omega⟩, h6, h7⟩
theorem Pen.there (h : Pen H p c ns n) : ∃ o, H p = some o := let ⟨t, l, e, _⟩ := h.d; ⟨_, e⟩
theorem Pen.dput (h : Pen H p c ns n) (h0 : 0 ≤ t) (h1 : t ≤ (n : Int)) : Pen (L2.upd H p (.dK (penD c t l))) p c ns n :=
  ⟨⟨t, l, upd_same, h0, h1⟩, by rw [upd_ne h.ne]; exact h.cells, h.len⟩
end
end L2.Ev
namespace L2.Ev
open PySem PySem.Spec PyProof.Rows
/-- a statement whose ways meet behind it -/
def tJoin (t u : TS) : TS := fun D σ H => ∃ R : St → Hp → Prop, t ⟨R, D.rt, D.bk, D.ct⟩ σ H ∧ ∀ σ' H', R σ' H' → u D σ' H'
theorem pss_join {X : Cx} {st : Stmt} {rest : List Stmt} {t u : TS} (h1 : PS X st t) (h2 : PSs X rest u) : PSs X (st :: rest) (tJoin t u) := by
  refine ⟨fun pins s σ H D I ⟨R, ha, hb⟩ => ?_⟩
  refine wpAny_execs_cons (thn (h1.run pins s σ H ⟨R, D.rt, D.bk, D.ct⟩ I ha) fun f s2 z => ?_)
  rcases f with _ | _ | _ | y
  · obtain ⟨σ2, H2, J, z⟩ := z
    exact h2.run pins s2 σ2 H2 D J (hb σ2 H2 z)
  all_goals exact z
end L2.Ev
namespace L2.Ev
open PySem PySem.Spec PyProof.Rows
/-! ### rules with the written part named: within a comprehension's block -/
section
variable {X : Cx} {K : PySem.W.Frag}
def rListOf (K : PySem.W.Frag) : List V → Hp → VK → Prop := fun xs H Q => ∃ p ys, xs = [.ref p] ∧ (SqL K H p ys ∨ SqT K H p ys) ∧ ∀ l, H l = none → Q (.ref l) (L2.upd H l (.lst ys))
theorem list_ofK (hK : X.K = K := by rfl) : CallR X (.type "list") (rListOf K) := by
  subst hK
  exact call_list_of
def rLenOf (K : PySem.W.Frag) : List V → Hp → VK → Prop := fun xs H Q => ∃ p ys, xs = [.ref p] ∧ (SqL K H p ys ∨ SqT K H p ys) ∧ Q (.int ys.length) H
theorem len_ofK (hK : X.K = K := by rfl) : CallR X (.builtin "len") (rLenOf K) := by
  subst hK
  exact call_len_seq
theorem ix_listK (hK : X.K = K := by rfl) : IxR X (rIxL K) := by
  subst hK
  exact ix_list
theorem ix_tupK (hK : X.K = K := by rfl) : IxR X (rIxT K) := by
  subst hK
  exact ix_tup
theorem sl_listK (hK : X.K = K := by rfl) : SlR X (rSlL K) := by
  subst hK
  exact sl_list
theorem op_eqDK (hu : X.A.units + 64 < cLine) (hK : X.K = K := by rfl) : OpR X (compareOp .Eq) (rEqD K) := by
  subst hK
  exact op_eqD hu
theorem op_neDK (hu : X.A.units + 64 < cLine) (hK : X.K = K := by rfl) : OpR X (compareOp .NotEq) (rNeD K) := by
  subst hK
  exact op_neD hu
theorem op_inK (hK : X.K = K := by rfl) : OpR X (compareOp .In) (rIn K false) := by
  subst hK
  exact op_in_seq
theorem op_notInK (hK : X.K = K := by rfl) : OpR X (compareOp .NotIn) (rIn K true) := by
  subst hK
  exact op_notIn_seq
end
end L2.Ev
set_option maxHeartbeats 2000000
/-! The rules that lay a new object, said by what stands behind: all as before, and the new object. -/
namespace L2.Ev
open PySem PySem.Spec PyProof.Rows
theorem OpR.give {X : Cx} {f : Value → Value → Sem Value} {r r' : R2} (h : OpR X f r) (k : ∀ x y H Q, r' x y H Q → r x y H Q) : OpR X f r' :=
  fun pins s σ H x y v u Q I rx ry q => h pins s σ H x y v u Q I rx ry (k _ _ _ _ q)
theorem CallR.give {X : Cx} {f : Value} {r r' : List V → Hp → VK → Prop} (h : CallR X f r) (k : ∀ xs H Q, r' xs H Q → r xs H Q) : CallR X f r' :=
  fun pins s σ H xs us Q I rx q => h pins s σ H xs us Q I rx (k _ _ _ q)
/-- behind: all as it was, and o at p -/
def Lays (H : Hp) (o : HO) (Q : VK) : Prop := ∀ p H', H p = none → Same H H' → H' p = some o → Q (.ref p) H'
theorem Lays.at {H : Hp} {o : HO} {Q : VK} (h : Lays H o Q) (p : Addr) (n : H p = none) : Q (.ref p) (L2.upd H p o) := h p _ n (Same.new (Same.refl H) n) upd_same
section
variable {X : Cx} {K : PySem.W.Frag} {es : List Expr} {t : TA} {pos : Pos}
def tLstS (t : TA) : TE := fun σ H Q => t σ H fun xs H1 => xs.length ≤ sizeLine ∧ Lays H1 (.lst xs) Q
def tTupS (t : TA) : TE := fun σ H Q => t σ H fun xs H1 => xs.length ≤ sizeLine ∧ Lays H1 (.tup xs) Q
theorem pe_tupS {x1} (h : PA X es t) : PE X (.Tuple es x1 pos) (tTupS t) := by
  refine ⟨fun pins s σ H Q I hq => ?_⟩
  refine wpAny_Tuple_spliced (thn (h.run pos pins s σ H _ I hq) fun us s1 ⟨xs, H1, J, rl, hz, q⟩ => ⟨by rw [← rl.length]; exact hz, ?_⟩)
  exact ⟨_, _, J.laid (t' := s1.toks) (o := .tup xs) (fun b u z => Heap.get?_push_of_some _ z) (Nat.le_refl _) (show ObjOk _ _ _ _ _ (.tup xs) from ⟨hz, us, rl, ⟨_, Heap.get?_push_size _ rfl, rfl, _, rfl⟩⟩), (show RelV (.ref s1.heap.objs.size) _ from rfl), q.at _ (J.hok.fresh (Nat.le_refl _))⟩
theorem pe_lstS (h : PA X es t) : PE X (.List es pos) (tLstS t) := by
  refine ⟨fun pins s σ H Q I hq => ?_⟩
  refine wpAny_List_spliced (thn (h.run pos pins s σ H _ I hq) fun us s1 ⟨xs, H1, J, rl, hz, q⟩ => ⟨by rw [← rl.length]; exact hz, ?_⟩)
  exact ⟨_, _, J.laid (t' := s1.toks) (o := .lst xs) (fun b u z => Heap.get?_push_of_some _ z) (Nat.le_refl _) (show ObjOk _ _ _ _ _ (.lst xs) from ⟨hz, us, 0, rl, Heap.get?_push_size _ rfl⟩), (show RelV (.ref s1.heap.objs.size) _ from rfl), q.at _ (J.hok.fresh (Nat.le_refl _))⟩
def rCatS : R2 := fun x y H Q => ∃ l b xs zs, x = .ref l ∧ y = .ref b ∧ H l = some (.lst xs) ∧ H b = some (.lst zs) ∧ xs.length + zs.length ≤ sizeLine ∧ Lays H (.lst (xs ++ zs)) Q
theorem op_catS : OpR X (binaryOp .Add) rCatS := OpR.give op_cat fun x y H Q ⟨l, b, xs, zs, h1, h2, h3, h4, h5, q⟩ => ⟨l, b, xs, zs, h1, h2, h3, h4, h5, fun p n => q.at p n⟩
def rListS (K : PySem.W.Frag) : List V → Hp → VK → Prop := fun xs H Q => ∃ p ys, xs = [.ref p] ∧ (SqL K H p ys ∨ SqT K H p ys) ∧ Lays H (.lst ys) Q
theorem list_ofS (hK : X.K = K := by rfl) : CallR X (.type "list") (rListS K) := CallR.give (list_ofK hK) fun xs H Q ⟨p, ys, h1, h2, q⟩ => ⟨p, ys, h1, h2, fun p n => q.at p n⟩
def rCutS (K : PySem.W.Frag) : V → Option Int → Option Int → Hp → VK → Prop := fun x lo hi H Q => ∃ a xs, x = .ref a ∧ SqL K H a xs ∧ Lays H (.lst (cutV xs lo hi)) Q
theorem sl_listS (hK : X.K = K := by rfl) : SlR X (rCutS K) := fun pins s σ H x v vl vu lo hi sl Q I rx hs pl pu ⟨a, xs, h1, h2, q⟩ => sl_listK hK pins s σ H x v vl vu lo hi sl Q I rx hs pl pu ⟨a, xs, h1, h2, fun p n => q.at p n⟩
end
/-! ### errors with fields -/
/-- an error of the class at C with the fields stands at a -/
def ErrAt (H : Hp) (a C : Addr) (fs : List (Str × V)) : Prop := ∃ dx, H a = some (exo a C (some dx)) ∧ H dx = some (exd dx fs)
theorem ErrAt.same {H H' : Hp} {a C : Addr} {fs : List (Str × V)} (e : ErrAt H a C fs) (s : Same H H') : ErrAt H' a C fs := let ⟨dx, h1, h2⟩ := e; ⟨dx, s _ _ h1, s _ _ h2⟩
theorem ErrAt.is {H : Hp} {a C : Addr} {fs : List (Str × V)} (e : ErrAt H a C fs) : IsEx H a C := let ⟨dx, h1, h2⟩ := e; .inl ⟨dx, _, h1, h2⟩
theorem lookup1 (f : Str) (v : V) : ([(f, v)] : List (Str × V)).lookup f = some v := by simp [List.lookup]
def sp_ini1 (C : Addr) (f : Str) : Sp := fun vs H Q _ => ∃ (a : Addr) (v : V), vs = [.ref a, v] ∧ H a = some (exo a C none) ∧
  ∀ dx, H dx = none → dx ≠ a → Q .non (L2.upd (L2.upd H dx (exd dx [(f, v)])) a (exo a C (some dx)))
/-- C(e), an error with one field -/
def tMk1 (C : Addr) (f : Str) (te : TE) : TE := fun σ H Q => te σ H fun v H1 => ∀ a H', H1 a = none → Same H1 H' → ErrAt H' a C [(f, v)] → Q (.ref a) H'
theorem pe_mk1 {X : Cx} {x : Str} {C fI : Addr} {k : Nat} {fd : FuncData} {ps : List Str} {f : Str} {e : Expr} {te : TE} {p pos : Pos} (T : OexC X.K C)
    (iC : PySem.W.findIn X.K (.ref C) "__init__" = some (some (.ref fI))) (tI : PySem.W.typeIn X.K (.ref fI) = some (.type "function"))
    (F1 : FnOk X.prog X.w X.K X.mg X.base CX0 k fI fd ps (sp_ini1 C f)) (hr : Room (k + 1) X.A) (hb : Binds X.K fd ps []) (hg : Gl X x) (hm : X.mg x = some (.ref C)) (ha : PE X e te)
    (hdb : (x == ("__debug__" : Str)) = false := by decide) (he : starEach [e] X.env = (false, eval e X.env) :: starEach [] X.env := by rfl) :
    PE X (.Call (.Name x p) [e] [] pos) (tMk1 C f te) := by
  refine ⟨fun pins s σ H Q I h => ?_⟩
  -- the argument's reading, with what is wanted of its value
  have R : PE X (.Call (.Name x p) [e] [] pos) (tMkV C (sp_ini1 C f) (tCons (fun σ' H' Q' => σ' = σ ∧ H' = H ∧ ∀ v H1, (∀ a H', H1 a = none → Same H1 H' → ErrAt H' a C [(f, v)] → Q (.ref a) H') → Q' v H1) tNil)) :=
    pe_mkV T iC tI F1 hr hb hg hm (pa_cons ⟨fun pins s σ' H' Q' I' ⟨e1, e2, q⟩ => by
      subst e1 e2
      exact thn (ha.run pins s _ _ _ I' h) fun v s1 ⟨y, H1, J, r, z⟩ => ⟨y, H1, J, r, q y H1 z⟩⟩ pa_nil he) hdb he (by rfl)
  refine R.run pins s σ H Q I ⟨rfl, rfl, fun v H1 z => ?_⟩
  refine ⟨by show 1 ≤ 1000; decide, fun a h1 => ⟨a, v, rfl, upd_same, fun dx h2 ne => ⟨rfl, ?_⟩⟩⟩
  have hd : H1 dx = none := by
    rw [upd_ne ne] at h2
    exact h2
  exact z a _ h1 (Same.own (Same.own (Same.own (Same.refl H1) h1) hd) h1) ⟨dx, upd_same, by rw [upd_ne ne, upd_same]⟩
/-- C() -/
theorem pe_mk0 {X : Cx} {C : Addr} {bmB : List Value} {B newId initId : String} {x : Str} {p pos : Pos} (F : ExcBaseFacts B newId initId bmB) (q : PySem.W.excIn X.K C bmB newId = true) (gC : X.mg x = some (.ref C)) (kC : PySem.W.keepIn X.K (.ref C) = true) (hg : Gl X x)
    (hdb : (x == ("__debug__" : Str)) = false := by decide) :
    PE X (.Call (.Name x p) [] [] pos) (fun _ H Q => ∀ a H', H a = none → Same H H' → IsEx H' a C → Q (.ref a) H') :=
  ⟨fun pins s σ H Q I h => (pe_mkV0 F q gC kC hg hdb).run pins s σ H Q I fun a n => h a _ n (Same.new (Same.refl H) n) (.inr upd_same)⟩
/-- what a reading gives, closed upward -/
def up (te : TE) : TE := fun σ H Q => ∃ P : VK, te σ H P ∧ ∀ v H', P v H' → Q v H'
theorem pe_up {X : Cx} {e : Expr} {te : TE} (h : PE X e te) : PE X e (up te) :=
  ⟨fun pins s σ H Q I ⟨P, hP, k⟩ => thn (h.run pins s σ H P I hP) fun v s1 ⟨y, H1, J, r, z⟩ => ⟨y, H1, J, r, k y H1 z⟩⟩
/-! ### a list comprehension that only lays new things -/
theorem lc_grow {J : It} {n : Nat} {g : TG} {tt : TT} {te : TE} {vs : List Nat} {σ : St} {H1 : Hp} {D : Addr} {Qd : Hp → Prop} (hD : H1 D = none) (R : Nat → List V → Hp → Prop)
    (mono : ∀ i acc H o, R i acc H → (∃ u, H D = some (.lst u)) → R i acc (L2.upd H D o)) (h0 : ∀ H, Same H1 H → R 0 [] H)
    (hgo : ∀ i H, i < n → Same H1 H → J.go i H) (hst : ∀ H, Same H1 H → J.stop n H) (hn : n < sizeLine)
    (hs : ∀ i acc H (F : V → Hp → Prop) (G : Hp → Prop), (∀ y H4, Same H H4 → R (i + 1) (acc ++ [y]) H4 → F y H4) → (∀ H3, Same H H3 → R (i + 1) acc H3 → G H3) →
      i < n → Same H1 H → H D = some (.lst acc) → R i acc H → ∀ x H', J.yld i H x H' → g x (wipe σ vs) H' fun σ2 H2 => wipe σ2 vs = wipe σ vs ∧ tt σ2 H2 fun b H3 => if b = true then te σ2 H3 F else G H3)
    (hd : ∀ acc H, Same H1 H → H D = some (.lst acc) → R n acc H → Qd H) :
    ∃ W : Nat → Nat → Hp → Prop, (∃ m, W 0 m (L2.upd H1 D (.lst []))) ∧ ∀ i m H, W i m H → (J.stop i H ∧ Qd H) ∨ (J.go i H ∧ ∃ Nx : Hp → Prop, (∀ H', Nx H' → ∃ m', m' < m ∧ W (i + 1) m' H') ∧
      ∀ x H', J.yld i H x H' → g x (wipe σ vs) H' fun σ2 H2 => wipe σ2 vs = wipe σ vs ∧ tt σ2 H2 fun b H3 =>
        if b = true then te σ2 H3 fun y H4 => ∃ acc, H4 D = some (.lst acc) ∧ acc.length < sizeLine ∧ Nx (L2.upd H4 D (.lst (acc ++ [y]))) else Nx H3) := by
  refine ⟨fun i m H => i + m = n ∧ Same H1 H ∧ ∃ acc, H D = some (.lst acc) ∧ acc.length ≤ i ∧ R i acc H, ⟨n, by omega, Same.new (Same.refl H1) hD, [], upd_same, Nat.le_refl 0, h0 _ (Same.new (Same.refl H1) hD)⟩, ?_⟩
  rintro i m H ⟨e, s1, acc, ha, hl, r⟩
  rcases Nat.lt_or_ge i n with hi | hi
  · refine .inr ⟨hgo i H hi s1, fun H' => Same H1 H' ∧ ∃ acc, H' D = some (.lst acc) ∧ acc.length ≤ i + 1 ∧ R (i + 1) acc H', fun H' q => ⟨m - 1, by omega, by omega, q⟩, fun x H' y => ?_⟩
    refine hs i acc H _ _ (fun y H4 t z => ?_) (fun H3 t z => ⟨s1.trans t, acc, t _ _ ha, by omega, z⟩) hi s1 ha r x H' y
    have e4 := t _ _ ha
    exact ⟨acc, e4, Nat.lt_of_le_of_lt hl (Nat.lt_trans hi hn), Same.own (s1.trans t) hD, acc ++ [y], upd_same, by rw [List.length_append]; simp; omega, mono _ _ _ _ z ⟨_, e4⟩⟩
  · have z : i = n := by omega
    subst z
    exact .inl ⟨hst H s1, hd acc H s1 ha r⟩
end L2.Ev
namespace L2.Ev
open PySem PySem.Spec PyProof.Rows
section
variable {X : Cx}
def rAppendS : V → List V → Hp → VK → Prop := fun x vs H Q => ∃ l xs y, x = .ref l ∧ vs = [y] ∧ H l = some (.lst xs) ∧ xs.length < sizeLine ∧ ∀ H', But l H H' → H' l = some (.lst (xs ++ [y])) → Q .non H'
theorem mt_appendS : MtR X "list.append" rAppendS := fun pins s σ H x v vs us Q I rx rv ⟨l, xs, y, h1, h2, h3, h4, q⟩ =>
  mt_append pins s σ H x v vs us Q I rx rv ⟨l, xs, y, h1, h2, h3, h4, q _ (But.self (But.refl l H)) upd_same⟩
end
theorem Same.but {B H H' : Hp} {l : Addr} (s : Same B H) (n : B l = none) (b : But l H H') : Same B H' := fun c o e => b c o (fun z => by rw [z, n] at e; cases e) (s c o e)
theorem wipe1 (σ : St) (i : Nat) (x : V) : wipe ((wipe σ [i]).set i (some x)) [i] = wipe σ [i] := by
  show ((σ.set i none).set i (some x)).set i none = σ.set i none
  rw [List.set_set, List.set_set]
theorem wiped (σ : St) (i : Nat) (x : V) (h : i < σ.length) : ((wipe σ [i]).set i (some x))[i]? = some (some x) := by
  show ((σ.set i none).set i (some x))[i]? = some (some x)
  rw [List.getElem?_set_self (by rw [List.length_set]; exact h)]
theorem wiped_ne (σ : St) (i j : Nat) (x : V) (h : i ≠ j) : ((wipe σ [i]).set i (some x))[j]? = σ[j]? := by
  show ((σ.set i none).set i (some x))[j]? = σ[j]?
  rw [List.getElem?_set_ne h, List.getElem?_set_ne h]
theorem exo_lst {e C : Addr} {d : Option Addr} {xs : List V} : exo e C d ≠ .lst xs := fun z => by
  have z' : HO.ext _ = HO.lst xs := z
  cases z'
theorem exd_lst {e : Addr} {fs : List (Str × V)} {xs : List V} : exd e fs ≠ .lst xs := fun z => by
  have z' : HO.ext _ = HO.lst xs := z
  cases z'
theorem exO_lst {e : Addr} {c : Value} {xs : List V} : ExO c e ≠ .lst xs := fun z => by
  have z' : HO.ext _ = HO.lst xs := z
  cases z'
/-- a list is no error, nor an error's dict -/
theorem IsEx.off {H : Hp} {a C f : Addr} {xs : List V} {o : HO} (e : IsEx H a C) (h : H f = some (.lst xs)) : IsEx (L2.upd H f o) a C := by
  rcases e with ⟨dx, fs, h1, h2⟩ | h1
  · exact .inl ⟨dx, fs, by rw [upd_ne (ne_of h1 h exo_lst)]; exact h1, by rw [upd_ne (ne_of h2 h exd_lst)]; exact h2⟩
  · exact .inr (by rw [upd_ne (ne_of h1 h exO_lst)]; exact h1)
theorem ErrAt.off {H : Hp} {a C f : Addr} {xs : List V} {o : HO} {fs : List (Str × V)} (e : ErrAt H a C fs) (h : H f = some (.lst xs)) : ErrAt (L2.upd H f o) a C fs := by
  obtain ⟨dx, h1, h2⟩ := e
  exact ⟨dx, by rw [upd_ne (ne_of h1 h exo_lst)]; exact h1, by rw [upd_ne (ne_of h2 h exd_lst)]; exact h2⟩
/-- [C(x) for x in xs], C an error with one field -/
theorem lc_errs {K : PySem.W.Frag} {C a : Addr} {f : Str} {i j : Nat} {xs : List V} {σ : St} {H : Hp} {Q : VK} (hi : σ[i]? = some (some (.ref a))) (hj : j < σ.length) (ha : H a = some (.lst xs)) (hl : xs.length < sizeLine)
    (k : ∀ (D : Addr) (H' : Hp) (es : List Addr), H D = none → Same H H' → H' D = some (.lst (es.map V.ref)) → es.length = xs.length → (∀ (n : Nat) e x, es[n]? = some e → xs[n]? = some x → ErrAt H' e C [(f, x)]) → Q (.ref D) H') :
    tLc (iList K (tVar i)) (gName j) tYes (tMk1 C f (tVar j)) [j] σ H Q := by
  refine ⟨_, hi, a, rfl, ⟨_, SqL.of ha⟩, fun D hD => ?_⟩
  refine lc_grow (n := xs.length) hD (fun m acc H' => ∃ es : List Addr, acc = es.map V.ref ∧ es.length = m ∧ ∀ (n : Nat) e x, es[n]? = some e → xs[n]? = some x → ErrAt H' e C [(f, x)]) ?_ ?_ ?_ ?_ hl ?_ ?_
  · rintro m acc H' o ⟨es, e1, e2, e3⟩ ⟨u, hu⟩
    exact ⟨es, e1, e2, fun n e x h1 h2 => (e3 n e x h1 h2).off hu⟩
  · intro H' _
    exact ⟨[], rfl, rfl, fun n e x h1 => absurd h1 (by simp)⟩
  · intro m H' hm s
    exact ⟨xs, xs[m], SqL.of (s _ _ ha), by simp [hm]⟩
  · intro H' s
    exact ⟨xs, SqL.of (s _ _ ha), Nat.le_refl _⟩
  · rintro m acc H' F G hF hG hm s hacc ⟨es, e1, e2, e3⟩ x H2 ⟨rfl, hx⟩
    have hx' := hx xs (SqL.of (s _ _ ha))
    refine ⟨wipe1 σ j x, ?_⟩
    refine ⟨_, wiped σ j x hj, fun e H3 he s3 hE => hF _ _ s3 ?_⟩
    refine ⟨es ++ [e], by rw [e1, List.map_append]; rfl, by rw [List.length_append, e2]; rfl, fun n e' x' h1 h2 => ?_⟩
    rcases Nat.lt_or_ge n es.length with z | z
    · rw [List.getElem?_append_left z] at h1
      exact (e3 n e' x' h1 h2).same s3
    · have hn : n = m := by
        have q := (List.getElem?_eq_some_iff.mp h1).1
        rw [List.length_append] at q
        simp at q
        omega
      subst hn
      rw [List.getElem?_append_right z, e2, Nat.sub_self] at h1
      cases h1
      rw [hx'] at h2
      cases h2
      exact hE
  · rintro acc H' s hacc ⟨es, e1, e2, e3⟩
    exact k D H' es hD s (e1 ▸ hacc) e2 e3
end L2.Ev
namespace L2.Ev
open PySem PySem.Spec PyProof.Rows
/-! ### from a block's reading to the reading of its next piece -/
section
variable {t u : TS} {D : Ends} {σ : St} {H : Hp} {i j : Nat} {v : V} {P : St → Hp → Prop} {ta : TA} {te : TE} {tr : TA} {QA : List V → Hp → Prop} {g : TG} {Q : VK}
theorem in_name (h : P (σ.set i (some v)) H) : gName i v σ H P := h
theorem in_seq (h : t { D with nx := u D } σ H) : tSeq t u D σ H := h
theorem in_par (h : ta σ H fun vs H1 => ∃ v w, vs = [v, w] ∧ D.nx ((σ.set i (some v)).set j (some w)) H1) : tPar i j ta D σ H := h
theorem in_cons (h : te σ H fun x H1 => tr σ H1 fun xs H2 => QA (x :: xs) H2) : tCons te tr σ H QA := h
theorem in_nil (h : QA [] H) : tNil σ H QA := h
theorem in_asg (h : te σ H fun x H1 => g x σ H1 D.nx) : tAsg te g D σ H := h
theorem in_ret (h : te σ H D.rt) : tRet te D σ H := h
theorem in_drop (h : te σ H fun _ H1 => D.nx σ H1) : tDrop te D σ H := h
theorem in_next (h : D.nx σ H) : tNext D σ H := h
end
end L2.Ev
namespace L2.Ev
open PySem PySem.Spec PyProof.Rows
/-- as lc_grow, but an object at p may change on the way -/
theorem lc_growB {J : It} {n : Nat} {g : TG} {tt : TT} {te : TE} {vs : List Nat} {σ : St} {H1 : Hp} {D p : Addr} {Qd : Hp → Prop} (hD : H1 D = none) (hp : D ≠ p) (R : Nat → List V → Hp → Prop)
    (mono : ∀ i acc H o, R i acc H → (∃ u, H D = some (.lst u)) → R i acc (L2.upd H D o)) (h0 : ∀ H, Same H1 H → R 0 [] H)
    (hgo : ∀ i H, i < n → But p H1 H → J.go i H) (hst : ∀ H, But p H1 H → J.stop n H) (hn : n < sizeLine)
    (hs : ∀ i acc H (F : V → Hp → Prop) (G : Hp → Prop), (∀ y H4, But p H H4 → R (i + 1) (acc ++ [y]) H4 → F y H4) → (∀ H3, But p H H3 → R (i + 1) acc H3 → G H3) →
      i < n → But p H1 H → H D = some (.lst acc) → R i acc H → ∀ x H', J.yld i H x H' → g x (wipe σ vs) H' fun σ2 H2 => wipe σ2 vs = wipe σ vs ∧ tt σ2 H2 fun b H3 => if b = true then te σ2 H3 F else G H3)
    (hd : ∀ acc H, But p H1 H → H D = some (.lst acc) → R n acc H → Qd H) :
    ∃ W : Nat → Nat → Hp → Prop, (∃ m, W 0 m (L2.upd H1 D (.lst []))) ∧ ∀ i m H, W i m H → (J.stop i H ∧ Qd H) ∨ (J.go i H ∧ ∃ Nx : Hp → Prop, (∀ H', Nx H' → ∃ m', m' < m ∧ W (i + 1) m' H') ∧
      ∀ x H', J.yld i H x H' → g x (wipe σ vs) H' fun σ2 H2 => wipe σ2 vs = wipe σ vs ∧ tt σ2 H2 fun b H3 =>
        if b = true then te σ2 H3 fun y H4 => ∃ acc, H4 D = some (.lst acc) ∧ acc.length < sizeLine ∧ Nx (L2.upd H4 D (.lst (acc ++ [y]))) else Nx H3) := by
  refine ⟨fun i m H => i + m = n ∧ But p H1 H ∧ ∃ acc, H D = some (.lst acc) ∧ acc.length ≤ i ∧ R i acc H, ⟨n, by omega, But.new (But.refl p H1) hD, [], upd_same, Nat.le_refl 0, h0 _ (Same.new (Same.refl H1) hD)⟩, ?_⟩
  rintro i m H ⟨e, s1, acc, ha, hl, r⟩
  rcases Nat.lt_or_ge i n with hi | hi
  · refine .inr ⟨hgo i H hi s1, fun H' => But p H1 H' ∧ ∃ acc, H' D = some (.lst acc) ∧ acc.length ≤ i + 1 ∧ R (i + 1) acc H', fun H' q => ⟨m - 1, by omega, by omega, q⟩, fun x H' y => ?_⟩
    refine hs i acc H _ _ (fun y H4 t z => ?_) (fun H3 t z => ⟨s1.trans t, acc, t _ _ hp ha, by omega, z⟩) hi s1 ha r x H' y
    have e4 := t _ _ hp ha
    exact ⟨acc, e4, Nat.lt_of_le_of_lt hl (Nat.lt_trans hi hn), But.own (s1.trans t) hD, acc ++ [y], upd_same, by rw [List.length_append]; simp; omega, mono _ _ _ _ z ⟨_, e4⟩⟩
  · have z : i = n := by omega
    subst z
    exact .inl ⟨hst H s1, hd acc H s1 ha r⟩
end L2.Ev
set_option maxHeartbeats 2000000
/-! any and all of a generator expression over anything, its element any expression that gives a bool. -/
namespace L2.Gq
open PySem PySem.Spec PyProof.Rows GenW

/-! ### the one who asks -/
/-- a bool comes out; the asker stops at «stop» -/
def QY (stop : Bool) (Fb : Bool → Shared → Prop) (a : Addr) (g : Nat) : Protocol := fun _ _ v z kap =>
  ∃ t : Bool, v = .bool t ∧ AllBare z.gens ∧ z.heap.IsGen a g ∧ z.heap.NoLimit ∧
    (t = stop → ∀ gs, AllBare gs → Fb stop { z with gens := gs }) ∧ (t ≠ stop → ∀ gs, AllBare gs → kap (.send .none) { z with gens := gs })
/-- nothing more comes -/
def QF (stop : Bool) (Fb : Bool → Shared → Prop) : Nat → Shared → Shared → Prop := fun _ _ z =>
  AllBare z.gens ∧ ∀ gs hp, AllBare gs → (∀ b o, z.heap.get? b = some o → hp.get? b = some o) → Fb (!stop) { z with gens := gs, heap := hp }
def QR (stop : Bool) (Fb : Bool → Shared → Prop) : GenEnd := fun n z r y =>
  ((r = .ok (.ret .none) ∨ r = .ok .next) ∧ QF stop Fb n z y) ∨ ∃ e, r = .error e ∧ (fun (_ : Value) (_ : Shared) => False) e y
section
variable {P : Program} {w : World} {A : Around} {R : Result → Shared → Prop} {a : Addr} {g : Nat} {Fb : Bool → Shared → Prop}
/-- one question -/
theorem ask1 {stop : Bool} {B : Around} (hh : B.handled = none) (hd : B.depth < recursionLimit) {n : Nat} {s : Shared} {gs : GenState} {Q : Option Value → Shared → Prop} {E : Value → Shared → Prop}
    (hg : s.heap.IsGen a g) (hl : s.heap.NoLimit) (hgs : s.gens[g]? = some gs)
    (hgo : gs.Goes (model P w) B.in1 (QR stop Fb) (QY stop Fb a g) n (.send .none) (s.setGen g .running))
    (hstop : ∀ y, Fb stop y → Q (some (.bool stop)) y) (hdone : ∀ y, Fb (!stop) y → Q none y)
    (hgo' : ∀ m y, n = m + 1 → y.heap.IsGen a g → y.heap.NoLimit → (∃ gs', y.gens[g]? = some gs' ∧ gs'.Goes (model P w) B.in1 (QR stop Fb) (QY stop Fb a g) m (.send .none) (y.setGen g .running)) → Q (some (.bool (!stop))) y) :
    wpAny (model P w) B (pyNext (.ref a)) Q E s := by
  have hlt : g < s.gens.size := (Array.getElem?_eq_some_iff.mp hgs).1
  refine wpAny_gsz (n := g + 1) hlt (next_genG (A := B) (F := QF stop Fb) (Er := fun _ _ => False) hh hl hd hg hgs hgo (fun v y gs' hb hv hsz => ?_) (fun y hp h' hk hsz => ?_) fun e y he => he.elim)
  · obtain ⟨t, rfl, bare, ig, nl, h1, h2⟩ := hv
    have hlt' : g < y.gens.size := by
      have q : (y.setGen g gs').gens.size = y.gens.size := setGen_size _ _ _
      have hsz' : g + 1 ≤ (y.setGen g gs').gens.size := hsz
      omega
    by_cases ht : t = stop
    · subst ht
      exact hstop _ (h1 rfl _ (allBare_setGen bare hb))
    · have et : t = !stop := by cases t <;> cases stop <;> simp_all
      subst et
      cases n with
      | zero => exact (h2 ht _ bare).elim
      | succ m =>
        refine hgo' m _ rfl ig nl ⟨gs', setGen_at hlt', ?_⟩
        exact h2 ht _ (allBare_setGen (s := y.setGen g gs') (allBare_setGen bare hb) rfl)
  · obtain ⟨bare, h1⟩ := hp
    exact hdone _ (h1 _ h' (allBare_setGen bare rfl) hk)

theorem all_turns (hh : A.handled = none) (hd : A.depth < recursionLimit) (hR : ∀ b y, Fb b y → R (.ok (.ret (.bool b))) y) :
    ∀ (n : Nat) (s : Shared), s.heap.IsGen a g → s.heap.NoLimit → (∃ gs, s.gens[g]? = some gs ∧ gs.Goes (model P w) A.in1.in1 (QR false Fb) (QY false Fb a g) n (.send .none) (s.setGen g .running)) →
      codeAny (model P w) A (.builtin "all.loop" ⟨[.ref a], []⟩) R s := by
  intro n
  induction n using Nat.strongRecOn with
  | ind n ih =>
    rintro s hg hl ⟨gs, hgs, hgo⟩
    refine codeAny_builtin F.entry_all_loop ?_
    rw [Around.under_plainId F.plain_all_loop _]
    show wpAny _ A.in1 (pyNext (.ref a) >>= _) _ _ s
    refine wpAny_bind (ask1 (B := A.in1) hh hd hg hl hgs hgo (fun y hy => ?_) (fun y hy => ?_) fun m y hn ig nl hq => ?_)
    · refine wpAny_bind (wpAny_holding (wpAny_truthy_bool ?_))
      refine wpAny_bind (wpAny_letGo ?_)
      simp only [Bool.false_eq_true, if_false]
      exact wpAny_bind (wpAny_rule (wpAny_pure (hR false y hy)))
    · exact wpAny_bind (wpAny_rule (wpAny_pure (hR true y hy)))
    · refine wpAny_bind (wpAny_holding (wpAny_truthy_bool ?_))
      refine wpAny_bind (wpAny_letGo ?_)
      simp only [Bool.not_false, if_true]
      exact wpAny_pure ⟨plainId_quiet F.plain_all_loop _, ih m (by omega) y ig nl hq⟩
theorem any_turns (hh : A.handled = none) (hd : A.depth < recursionLimit) (hR : ∀ b y, Fb b y → R (.ok (.ret (.bool b))) y) :
    ∀ (n : Nat) (s : Shared), s.heap.IsGen a g → s.heap.NoLimit → (∃ gs, s.gens[g]? = some gs ∧ gs.Goes (model P w) A.in1.in1 (QR true Fb) (QY true Fb a g) n (.send .none) (s.setGen g .running)) →
      codeAny (model P w) A (.builtin "any.loop" ⟨[.ref a], []⟩) R s := by
  intro n
  induction n using Nat.strongRecOn with
  | ind n ih =>
    rintro s hg hl ⟨gs, hgs, hgo⟩
    refine codeAny_builtin F.entry_any_loop ?_
    rw [Around.under_plainId F.plain_any_loop _]
    show wpAny _ A.in1 (pyNext (.ref a) >>= _) _ _ s
    refine wpAny_bind (ask1 (B := A.in1) hh hd hg hl hgs hgo (fun y hy => ?_) (fun y hy => ?_) fun m y hn ig nl hq => ?_)
    · refine wpAny_bind (wpAny_holding (wpAny_truthy_bool ?_))
      refine wpAny_bind (wpAny_letGo ?_)
      simp only [if_true]
      exact wpAny_bind (wpAny_rule (wpAny_pure (hR true y hy)))
    · exact wpAny_bind (wpAny_rule (wpAny_pure (hR false y hy)))
    · refine wpAny_bind (wpAny_holding (wpAny_truthy_bool ?_))
      refine wpAny_bind (wpAny_letGo ?_)
      simp only [Bool.not_true, Bool.false_eq_true, if_false]
      exact wpAny_pure ⟨plainId_quiet F.plain_any_loop _, ih m (by omega) y ig nl hq⟩
/-- all(g), any(g): g fresh -/
theorem call_all_gen {s : Shared} {Q E : Value → Shared → Prop} {n : Nat} (hh : A.handled = none) (hd : A.depth < recursionLimit) (hg : s.heap.IsGen a g) (hl : s.heap.NoLimit)
    (hq : ∃ gs, s.gens[g]? = some gs ∧ gs.Goes (model P w) A.in1.in1 (QR false Fb) (QY false Fb a g) n (.send .none) (s.setGen g .running)) (hQ : ∀ b y, Fb b y → Q (.bool b) y) :
    wpAny (model P w) A (call (.builtin "all") [.ref a]) Q E s := by
  refine call_function_tree F.kind_all F.plain_all F.entry_all (F.args_all1 _) ?_
  unfold Builtin.«all»
  refine wpAny_bind (m := oneArg "all" _) (wpAny_pure ?_)
  refine wpAny_bind (wpAny_pyIter_gen hg ?_)
  exact wpAny_pure ⟨plainId_quiet F.plain_all_loop _, all_turns hh hd (fun b y h => hQ b y h) n s hg hl hq⟩
theorem call_any_gen {s : Shared} {Q E : Value → Shared → Prop} {n : Nat} (hh : A.handled = none) (hd : A.depth < recursionLimit) (hg : s.heap.IsGen a g) (hl : s.heap.NoLimit)
    (hq : ∃ gs, s.gens[g]? = some gs ∧ gs.Goes (model P w) A.in1.in1 (QR true Fb) (QY true Fb a g) n (.send .none) (s.setGen g .running)) (hQ : ∀ b y, Fb b y → Q (.bool b) y) :
    wpAny (model P w) A (call (.builtin "any") [.ref a]) Q E s := by
  refine call_function_tree F.kind_any F.plain_any F.entry_any (F.args_any1 _) ?_
  unfold Builtin.«any»
  refine wpAny_bind (m := oneArg "any" _) (wpAny_pure ?_)
  refine wpAny_bind (wpAny_pyIter_gen hg ?_)
  exact wpAny_pure ⟨plainId_quiet F.plain_any_loop _, any_turns hh hd (fun b y h => hQ b y h) n s hg hl hq⟩
end

/-! ### the one who answers -/
/-- the context of the generator's own frame -/
abbrev gx (X : Cx) (B : Around) (s : Shared) (H : Hp) (ce : Env) (fp : List Addr) (pn : List (Addr × Obj)) : Cx :=
  { X with A := B, s_0 := s, H_0 := H, env := ce, outer := X.stack, stack := ce :: X.stack, ex := fp, fn := fun _ => false, calm := true, pn := pn, xe := fun _ _ => False }
/-- its scope -/
structure GScp (N : List Str) (sc scope : Scope) (own : List (Str × Nat)) : Prop where
  blk : BlkOk N sc scope own
  co : scope.isCoroutine = false
  cell : ∀ y ∈ scope.names, y.2 ≠ .cell
  dot : scope.names.lookup (".0" : Str) = some NameKind.local
section
variable {X : Cx} {pins : List (Addr × Obj)} {σ : L2.St} {H : Hp} {s : Shared}
theorem gx_start {scope : Scope} {own : List (Str × Nat)} {fp : List Addr} {B : Around} {code : Value} {h5 : Heap} {gs : Array GenState} {tk : Nat} {a : Addr} {ga : Obj} {m : Str → Option Value} (I : Inv X pins σ H s) (ok : GScp X.N X.env.scope scope own) (hN : X.N.Nodup)
    (hfp : ∀ b ∈ fp, FpOk X pins H b ∧ b < s.heap.objs.size) (hBh : B.handled = none) (hBf : B.frames = some (genEnv scope (cloFrom X.env.cells scope.names []) s.heap.objs.size code builtinsNs X.env :: X.stack))
    (hk : ∀ b o, s.heap.get? b = some o → h5.get? b = some o) (hns : h5.Ns s.heap.objs.size m) (ha : h5.get? a = some ga) (hal : s.heap.objs.size < a) (hgd : ∀ v, ga.data ≠ .cell v) (hgs : AllBare gs) :
    Inv (gx X B s H (genEnv scope (cloFrom X.env.cells scope.names []) s.heap.objs.size code builtinsNs X.env) fp [(a, ga)]) [] (wipe σ (own.map (·.2))) H { s with heap := h5, gens := gs, toks := tk } := by
  have hfree : ∀ y ∈ scope.names, y.2 = .free → ∃ c, X.env.cells.lookup y.1 = some c := fun y hy e => by
    rcases ok.blk.free y hy e with k | k
    · exact I.ok.has _ (.inl k)
    · exact I.ok.has _ (.inr k)
  generalize hce : genEnv scope (cloFrom X.env.cells scope.names []) s.heap.objs.size code builtinsNs X.env = ce at hBf
  have cL : ce.locals = s.heap.objs.size := by subst hce; rfl
  have cC : ce.cells = cloFrom X.env.cells scope.names [] := by subst hce; rfl
  have cS : ce.scope = scope := by subst hce; rfl
  have cF : ce.frame = some ce.locals := by subst hce; rfl
  have cG : ce.globals = X.env.globals := by subst hce; rfl
  have cB : ce.builtins = builtinsNs := by subst hce; rfl
  have cm : ∀ {y c}, (y, c) ∈ cloFrom X.env.cells scope.names [] → X.env.cells.lookup y = some c ∧ c < s.heap.objs.size := fun {y c} hm => by
    rcases cloFrom_mem hm with hm | ⟨h1, rfl⟩
    · cases hm
    · obtain ⟨c, hc⟩ := hfree _ h1 rfl
      rw [hc]
      obtain ⟨w, z⟩ := I.cell _ _ hc
      exact ⟨rfl, z.lt⟩
  have mem : ∀ {y c}, ce.cells.lookup y = some c → X.env.cells.lookup y = some c ∧ c < s.heap.objs.size := fun {y c} e => by
    rw [cC] at e
    exact cm (PySem.mem_of_lookup e)
  have look : ∀ {y}, scope.names.lookup y = some .free → ∃ c, ce.cells.lookup y = some c ∧ X.env.cells.lookup y = some c := fun {y} hl => by
    obtain ⟨c', e'⟩ := mem_lookup (cloFrom_has (cells := X.env.cells) (acc := []) (PySem.mem_of_lookup hl))
    rw [← cC] at e'
    exact ⟨c', e', (mem e').1⟩
  have nocell : ∀ y, scope.names.lookup y ≠ some .cell := fun y e => ok.cell _ (PySem.mem_of_lookup e) rfl
  have okB : (gx X B s H ce fp [(a, ga)]).Ok := by
    refine ⟨I.ok.mod, ?_, ?_, cB, ?_, fun y z c e1 e2 => ?_, fun y hy => ?_, fun y c z _ => ?_, fun _ => hBh, hBf, .inr ⟨rfl, cF⟩, fun b hb => ⟨?_, fun y c e z => ?_⟩, I.bs, Nat.le_trans I.ok.bsz I.sz, fun b o e hb => ?_, fun b hb z => ?_, I.stack, I.stkFree⟩
    · show ce.scope.kind = _; rw [cS]; exact ok.blk.kind
    · show ce.globals = _; rw [cG]; exact I.ok.glob
    · show s.heap.objs.size ≤ ce.locals; rw [cL]; exact Nat.le_refl _
    · exact I.ok.inj y z c (mem (c := c) e1).1 (mem (c := c) e2).1
    · have hy : ce.scope.names.lookup y = some .cell ∨ ce.scope.names.lookup y = some .free := hy
      rw [cS] at hy
      rcases hy with hy | hy
      · exact absurd hy (nocell y)
      · obtain ⟨c, h1, _⟩ := look hy
        exact ⟨c, h1⟩
    · exact absurd (show false = true from z) (by decide)
    · show b ≠ ce.locals
      rw [cL]; exact Nat.ne_of_lt (hfp b hb).2
    · exact (hfp b hb).1.2.2.2.2.1 y c (mem e).1 z
    · rcases (hfp b hb).1.2.2.2.1 with z | z
      · exact I.ok.noex b o e z
      · exact absurd (Nat.lt_of_lt_of_le (Heap.lt_size e) (Nat.le_trans I.ok.bsz z)) (Nat.lt_irrefl _)
    · rcases List.mem_cons.mp (I.stkSub b z) with z | z
      · exact (hfp b hb).1.2.1 z
      · exact (hfp b hb).1.2.2.1 z
  refine ⟨okB, rfl, hgs, Un.kept hk, ⟨m, ?_, fun i y av e1 e2 e3 => ?_⟩, fun y c e => ?_, ?_, fun y c e => ?_, fun p hp => ?_, I.hok.kept hk, by rw [wipe_length]; exact I.len⟩
  · show Heap.Ns _ ce.locals _
    rw [cL]; exact hns
  · obtain ⟨e2, hne⟩ := wipe_some e2
    have e3 : ce.scope.names.lookup y = some .local ∨ ce.scope.names.lookup y = some .cell ∨ ce.scope.names.lookup y = some .free := e3
    rw [cS] at e3
    have hfr : scope.names.lookup y = some .free := by
      rcases e3 with e | e | e
      · rcases ok.blk.own _ (PySem.mem_of_lookup e) (.inl rfl) with e' | e'
        · obtain ⟨p, hp, hpy⟩ := List.mem_map.mp e'
          have e4 := ok.blk.ix p hp
          have e5 : p.1 = y := hpy
          rw [e5] at e4
          exact absurd (List.mem_map.mpr ⟨p, hp, nodup_ix hN e4 e1⟩) hne
        · exact absurd (List.mem_of_getElem? e1) e'
      · exact absurd e (nocell y)
      · exact e
    obtain ⟨m0, hn0, hl⟩ := I.loc
    have hvis : Vis X.env.scope y := (ok.blk.free _ (PySem.mem_of_lookup hfr) rfl).elim (fun k => .inr (.inl k)) (fun k => .inr (.inr k))
    obtain ⟨w, r, q⟩ := hl i y av e1 e2 hvis
    obtain ⟨c, h1, h2⟩ := look hfr
    refine ⟨w, r, .inr ⟨.inr (show ce.scope.names.lookup y = _ by rw [cS]; exact hfr), c, h1, ?_⟩⟩
    rcases q with ⟨k, _⟩ | ⟨_, c', e', z⟩
    · have k : X.env.scope.names.lookup y = some .local := k
      rcases ok.blk.free _ (PySem.mem_of_lookup hfr) rfl with k' | k' <;> rw [show X.env.scope.names.lookup y = _ from k'] at k <;> cases k
    · rw [h2] at e'; cases e'
      exact z.keeps hk
  · obtain ⟨w, z⟩ := I.cell y c (mem e).1
    exact ⟨w, z.keeps hk⟩
  · show H ce.locals = none
    rw [cL]; exact I.hok.fresh (Nat.le_refl _)
  · exact I.freeC y c (mem e).1
  · have hp : p = (a, ga) := by simpa using (show p ∈ [(a, ga)] ++ ([] : List (Addr × Obj)) from hp)
    subst hp
    refine ⟨ha, I.hok.fresh (Nat.le_of_lt hal), ?_, fun z => ?_, hgd⟩
    · show a ≠ ce.locals
      rw [cL]; exact Nat.ne_of_gt hal
    · rcases List.mem_cons.mp (I.stkSub a z) with z | z
      · exact absurd (Nat.lt_trans I.lt (by rw [← z]; exact hal)) (Nat.lt_irrefl _)
      · exact I.nofs (Nat.le_of_lt hal) z
/-- the same, with another table of generators -/
theorem gens_any {gs : Array GenState} (I : Inv X pins σ H s) (h : AllBare gs) : Inv X pins σ H { s with gens := gs } :=
  ⟨I.ok, I.os, h, I.base, I.loc, I.cell, I.free, I.freeC, I.pin, I.hok, I.len⟩
/-- what a turn of the question wants -/
abbrev QTurn (J : It) (gt : TG) (tt : TT) (te : TE) (vs : List Nat) (σ : L2.St) (stop : Bool) (Qb : Bool → Hp → Prop) (W : Nat → Nat → Hp → Prop) : Prop := ∀ i m H, W i m H →
  (J.stop i H ∧ Qb (!stop) H) ∨ (J.go i H ∧ ∃ Nx : Hp → Prop, (∀ H', Nx H' → ∃ m', m' < m ∧ W (i + 1) m' H') ∧ ∀ x H', J.yld i H x H' → gt x (wipe σ vs) H' fun σ2 H2 => wipe σ2 vs = wipe σ vs ∧ tt σ2 H2 fun b H3 =>
    if b = true then te σ2 H3 fun y H4 => ∃ t : Bool, y = .bl t ∧ (t = stop → Qb stop H4) ∧ (t ≠ stop → Nx H4) else Nx H3)
theorem gx_turns {Ag : Around} {elt tg iter : Expr} {ifs : List Expr} {scope : Scope} {pos : Pos} {it a : Addr} {g : Nat} {ga : Obj} {ce : Env} {fp : List Addr} {tn : Nat → Heap → Prop} {J : It} {gt : TG} {tt : TT} {te : TE} {vs : List Nat} {stop : Bool} {Qb : Bool → Hp → Prop} {W : Nat → Nat → Hp → Prop} {Fb : Bool → Shared → Prop}
    (hco : ce.scope.isCoroutine = false) (T : Turn X.prog X.w X.K tg J fp it tn) (hig : ∀ h : Heap, h.get? a = some ga → h.IsGen a g) (haf : a ∉ fp)
    (pg : PG (gx X (Ag.over (.compLoop (.GeneratorExp elt [⟨tg, iter, ifs, 0⟩] scope pos) 0 (.ref it) .none ce) []) s H ce fp [(a, ga)]) tg gt)
    (pt : PTs (gx X (Ag.over (.compLoop (.GeneratorExp elt [⟨tg, iter, ifs, 0⟩] scope pos) 0 (.ref it) .none ce) []) s H ce fp [(a, ga)]) ifs tt)
    (pe : PE (gx X (Ag.over (.compLoop (.GeneratorExp elt [⟨tg, iter, ifs, 0⟩] scope pos) 0 (.ref it) .none ce) []) s H ce fp [(a, ga)]) elt te)
    (turn : QTurn J gt tt te vs σ stop Qb W)
    (back : ∀ (b : Bool) (pins' : List (Addr × Obj)) (σ' : L2.St) (H' : Hp) (y : Shared), Inv (gx X (Ag.over (.compLoop (.GeneratorExp elt [⟨tg, iter, ifs, 0⟩] scope pos) 0 (.ref it) .none ce) []) s H ce fp [(a, ga)]) pins' σ' H' y → Qb b H' →
      ∀ gs hp, AllBare gs → (∀ b o, y.heap.get? b = some o → hp.get? b = some o) → Fb b { y with gens := gs, heap := hp }) :
    ∀ (m n i : Nat) (z y : Shared) (H' : Hp), m < n → W i m H' → Inv (gx X (Ag.over (.compLoop (.GeneratorExp elt [⟨tg, iter, ifs, 0⟩] scope pos) 0 (.ref it) .none ce) []) s H ce fp [(a, ga)]) [] (wipe σ vs) H' y → tn i y.heap → (∀ b ∈ fp, H' b = none) →
      Seg (model X.prog X.w) Ag (QR stop Fb) (QY stop Fb a g) n z (.compLoop (.GeneratorExp elt [⟨tg, iter, ifs, 0⟩] scope pos) 0 (.ref it) .none ce)
        ((model X.prog X.w).den (.compLoop (.GeneratorExp elt [⟨tg, iter, ifs, 0⟩] scope pos) 0 (.ref it) .none ce)) [] y := by
  generalize hY : gx X (Ag.over (.compLoop (.GeneratorExp elt [⟨tg, iter, ifs, 0⟩] scope pos) 0 (.ref it) .none ce) []) s H ce fp [(a, ga)] = Y at pg pt pe back
  have yP : Y.prog = X.prog := by subst hY; rfl
  have yw : Y.w = X.w := by subst hY; rfl
  have yK : Y.K = X.K := by subst hY; rfl
  have yc : Y.calm = true := by subst hY; rfl
  have yA : Y.A = Ag.over (.compLoop (.GeneratorExp elt [⟨tg, iter, ifs, 0⟩] scope pos) 0 (.ref it) .none ce) [] := by subst hY; rfl
  have yE : Y.env = ce := by subst hY; rfl
  have yx : Y.xe = fun _ _ => False := by subst hY; rfl
  have yex : Y.ex = fp := by subst hY; rfl
  have ypn : Y.pn = [(a, ga)] := by subst hY; rfl
  have stat : ∀ {σ' : L2.St} {H' : Hp} {y : Shared}, Inv Y [] σ' H' y → (∀ b ∈ fp, H' b = none) → ∀ b ∈ fp, FpOk Y [] H' b := fun {σ' H' y} I' hn b hb =>
    ⟨hn b hb, (I'.ok.exf b (by rw [yex]; exact hb)).1, I'.ok.exfs b (by rw [yex]; exact hb), .inl (by rw [yex]; exact hb), fun x c e => (I'.ok.exf b (by rw [yex]; exact hb)).2 x c e, fun p hp e => by
      rw [ypn] at hp
      have hp : p = (a, ga) := by simpa using hp
      subst hp
      exact haf (by rw [show a = b from e]; exact hb)⟩
  intro m
  induction m using Nat.strongRecOn with
  | ind m ih =>
  intro n i z y H' hmn w0 I st nf
  obtain ⟨n, rfl⟩ : ∃ k, n = k + 1 := ⟨n - 1, by omega⟩
  show Seg _ Ag _ _ _ z _ ((compTurn (.GeneratorExp elt [⟨tg, iter, ifs, 0⟩] scope pos) 0 (.ref it) .none ce).onRaise (leaving ce)) [] y
  rw [compTurn_gen, Sem.onRaise_eq_wrap]
  refine seg_bind_wrap (wpAny_standAt ?_)
  rcases turn i m H' w0 with ⟨hst, hq⟩ | ⟨go, Nx, hNx, step⟩
  · have td := T.done Y yP yw yK yc i [] y _ H' (fun _ _ => False) I (stat I nf) st hst
    refine seg_bind_wrap ?_
    rw [← yA]
    refine thnF td fun r s6 ⟨hr, I6⟩ => ?_
    subst hr
    exact seg_end (.ok .next) (.inl ⟨.inr rfl, I6.bare, fun gs hp hb hk => back _ _ _ H' _ I6 hq gs hp hb hk⟩)
  · have ti := T.item Y yP yw yK yc i [] y _ H' (fun _ _ => False) I (stat I nf) st go
    refine seg_bind_wrap ?_
    rw [← yA]
    refine thnF ti fun r s6 ⟨u, hr, h6⟩ => ?_
    subst hr
    refine seg_bind_wrap ?_
    rw [← yA]
    refine thnF h6 fun _ s7 ⟨x, H7, I7, r7, y7, st7, n7⟩ => ?_
    have I7' := I7.pinned (stat I7 n7) (T.obj _ _ st7)
    have pg := pg.run _ s7 _ H7 x u _ I7' r7 (step x H7 y7)
    rw [yP, yw, yE, yx] at pg
    refine seg_bind_wrap ?_
    rw [← yA]
    refine thnF pg fun _ s8 ⟨σ8, H8, I8, hw8, q8⟩ => ?_
    have pt := pt.run _ s8 σ8 H8 _ I8 q8
    rw [yP, yw, yE, yx] at pt
    refine seg_bind_wrap ?_
    rw [← yA]
    refine thnF pt fun b s9 ⟨H9, I9, q9⟩ => ?_
    have fin : ∀ {y' : Shared} {H'' : Hp} {k : Nat} {z' : Shared}, Inv Y ([] ++ pinsAt fp s7.heap) σ8 H'' y' → Nx H'' → m ≤ k →
        Seg (model X.prog X.w) Ag (QR stop Fb) (QY stop Fb a g) k z' (.compLoop (.GeneratorExp elt [⟨tg, iter, ifs, 0⟩] scope pos) 0 (.ref it) .none ce)
          ((model X.prog X.w).den (.compLoop (.GeneratorExp elt [⟨tg, iter, ifs, 0⟩] scope pos) 0 (.ref it) .none ce)) [] y' := fun {y' H'' k z'} I' nx hk => by
      obtain ⟨m', hm, w'⟩ := hNx H'' nx
      have pin' : ∀ b ∈ fp, ∀ o, s7.heap.get? b = some o → y'.heap.get? b = some o ∧ H'' b = none := fun b hb o e =>
        let q := I'.pin (b, o) (List.mem_append_right _ (List.mem_append_right _ (mem_pinsAt hb e)))
        ⟨q.1, q.2.1⟩
      have hl : (wipe σ vs).length = σ8.length := by rw [← hw8, wipe_length]
      refine ih m' hm k (i + 1) z' y' H'' (by omega) w' ((I'.unpinned (pins := [])).weak hl (fun j v e => ?_)) (T.keep _ _ _ st7 fun b hb o e => (pin' b hb o e).1) (fun b hb => ?_)
      · rw [← hw8] at e
        exact (wipe_some e).1
      · obtain ⟨o, e, _⟩ := T.obj _ _ st7 b hb
        exact (pin' b hb o e).2
    cases b with
    | false =>
      simp only [Bool.false_eq_true, if_false] at q9 ⊢
      exact seg_again rfl (fin I9 q9 (by omega))
    | true =>
      simp only [if_true] at q9 ⊢
      have hyo : ∀ v, yieldOut ce v = yieldValue v := fun v => by simp only [yieldOut, hco, Bool.false_eq_true, if_false]
      simp only [hyo]
      have pe := pe.run _ s9 σ8 H9 _ I9 q9
      rw [yP, yw, yE, yx] at pe
      rw [Sem.bind_eq_wrap', Sem.bind_eq_wrap', Sem.wrap_wrap, Sem.wrap_wrap]
      refine seg_wrap ?_
      rw [← yA]
      refine thnF pe fun yv s10 ⟨yV, H10, I10, r10, t, et, hs, hn⟩ => ?_
      subst et
      have r10 : yv = .bool t := r10
      subst r10
      have pin : s10.heap.get? a = some ga := (I10.pin (a, ga) (by rw [ypn]; simp)).1
      refine seg_at (seg_yield rfl rfl rfl ⟨t, rfl, I10.bare, hig _ pin, I10.nolimit, fun e gs hb => ?_, fun e gs hb => ?_⟩)
      · exact back _ _ _ H10 s10 I10 (hs e) gs s10.heap hb fun _ _ z => z
      · exact seg_again rfl (fin (gens_any I10 hb) (hn e) (by omega))
/-! ### the rules -/
/-- a def's table of code objects: it may grow, the heap that is told of stays the same -/
def TabX (P : Addr) : HO := .ext fun h => ∃ ps : Array Value, h.get? P = some { cls := .none, data := .fields ps } ∧ TriplesOk ps.toList
theorem tabX_ok {P : Program} {w : World} {H : Hp} {h : Heap} {b : Addr} {ps : Array Value} (e : h.get? b = some { cls := .none, data := .fields ps }) (t : TriplesOk ps.toList) : ObjOk P w H h b (TabX b) :=
  ⟨⟨ps, e, t⟩, ⟨_, e⟩, fun _ _ ⟨qs, e1, t1⟩ k => ⟨qs, k _ e1, t1⟩⟩
theorem upd_same_fun {H : Hp} {b : Addr} {o : HO} (e : H b = some o) : L2.upd H b o = H := by
  funext c
  by_cases hc : c = b
  · subst hc; rw [upd_same, e]
  · rw [upd_ne hc]
theorem tab_grows {P : Addr} {h' : Heap} {tk : Nat} {ps : Array Value} (I : Inv X pins σ H s) (hP : H P = some (TabX P)) (k : ∀ b o, b ≠ P → s.heap.get? b = some o → h'.get? b = some o) (e : h'.get? P = some { cls := .none, data := .fields ps }) (t : TriplesOk ps.toList) :
    Inv X pins σ H { s with heap := h', toks := tk } := by
  have J := I.write (x := P) (e := P) (o := TabX P) (t' := tk) (by rw [hP]; trivial) (.inl rfl) (fun b u hb q => k b u hb q) ⟨_, e⟩ (tabX_ok e t)
  rw [upd_same_fun hP] at J
  exact J
/-- the reading of a question: what «stop» or the end gives -/
def tQ (P : Addr) (wi : TI) (gt : TG) (tt : TT) (te : TE) (vs : List Nat) (stop : Bool) : TE := fun σ H Q => wi σ H fun J H1 => H1 P = some (TabX P) ∧ ∃ W : Nat → Nat → Hp → Prop, (∃ m, W 0 m H1) ∧ QTurn J gt tt te vs σ stop (fun b H' => Q (.bl b) H') W
theorem gen_new {elt tg iter : Expr} {ifs : List Expr} {scope : Scope} {own : List (Str × Nat)} {gpos : Pos} {wi : TI} {gt : TG} {tt : TT} {te : TE} {k : Nat} {c P : Addr} {stop : Bool} {Q : VK} {Q' : Value → Shared → Prop} (hr : Room (k + 1) X.A)
    (TB : LamX.TabB X.base X.mg c P) (hcode : X.env.code = .ref c) (ok : GScp X.N X.env.scope scope own) (hN : X.N.Nodup) (hi : PI X tg iter wi)
    (hgt : ∀ (B : Around) (s : Shared) (H : Hp) (C : Addr) (cd : Value) (fp : List Addr) (pn : List (Addr × Obj)), Room k B → PG (gx X B s H (genEnv scope (cloFrom X.env.cells scope.names []) C cd builtinsNs X.env) fp pn) tg gt)
    (htt : ∀ (B : Around) (s : Shared) (H : Hp) (C : Addr) (cd : Value) (fp : List Addr) (pn : List (Addr × Obj)), Room k B → PTs (gx X B s H (genEnv scope (cloFrom X.env.cells scope.names []) C cd builtinsNs X.env) fp pn) ifs tt)
    (hte : ∀ (B : Around) (s : Shared) (H : Hp) (C : Addr) (cd : Value) (fp : List Addr) (pn : List (Addr × Obj)), Room k B → PE (gx X B s H (genEnv scope (cloFrom X.env.cells scope.names []) C cd builtinsNs X.env) fp pn) elt te)
    (hs : ∀ v, genFold iter X.env v = pure v) (I : Inv X pins σ H s) (h : tQ P wi gt tt te (own.map (·.2)) stop σ H Q)
    (hQ : ∀ a g n y, y.heap.IsGen a g → y.heap.NoLimit →
      (∃ gs, y.gens[g]? = some gs ∧ gs.Goes (model X.prog X.w) X.A.in1.in1 (QR stop fun b z => ∃ H', Inv X pins σ H' z ∧ Q (.bl b) H') (QY stop (fun b z => ∃ H', Inv X pins σ H' z ∧ Q (.bl b) H') a g) n (.send .none) (y.setGen g .running)) → Q' (.ref a) y) :
    wpAny (model X.prog X.w) X.A (eval (.GeneratorExp elt [⟨tg, iter, ifs, 0⟩] scope gpos) X.env) Q' X.xe s := by
  have hfree : ∀ y ∈ scope.names, y.2 = .free → ∃ c, X.env.cells.lookup y.1 = some c := fun y hy e => by
    rcases ok.blk.free y hy e with k | k
    · exact I.ok.has _ (.inl k)
    · exact I.ok.has _ (.inr k)
  refine wpAny_GeneratorExp_make ok.co (closure_ok hfree) ok.cell ok.dot ok.blk.kind hr.depth ?_ hs
  refine thn (hi.run pins s σ H _ I h) fun xv s1 hx => thn hx fun itv s2 h2 => ?_
  obtain ⟨it, fp, tn, J, H2, rfl, I2, T, st2, f2, hP, W, ⟨m0, w0⟩, turn⟩ := h2
  refine ⟨I2.nolimit, ?_⟩
  obtain ⟨⟨ps, hPs, htr⟩, _, _⟩ := (show ObjOk _ _ _ _ _ (TabX P) from I2.hok P _ hP)
  have cd : PySem.W.CodeHd s2.heap c P := TB.code.keeps I2.bk
  have nP : ∀ b ∈ fp, b ≠ P := fun b hb e => by
    have q := (f2 b hb).1
    rw [e, hP] at q
    cases q
  have cont : ∀ (code : Value) (s3 : Shared), Inv X pins σ H2 s3 → (∀ b o, b ≠ P → s2.heap.get? b = some o → s3.heap.get? b = some o) →
      wpAny (model X.prog X.w) X.A (builtinsFor X.env.globals X.env.builtins) (fun bi s4 =>
        ∀ h', h'.Ns s4.heap.objs.size (fun y => if y = ".0" then some (Value.ref it) else none) → Heap.SameBut s4.heap.objs.size (s4.heap.push { cls := .type "frame", data := .dict #[] }) h' →
          Q' (.ref h'.objs.size) { s4 with
            gens := s4.gens.push (.fresh (.compStart (.GeneratorExp elt [⟨tg, iter, ifs, 0⟩] scope gpos) 0 (.ref it) .none (genEnv scope (cloFrom X.env.cells scope.names []) s4.heap.objs.size code bi X.env))),
            toks := s4.toks + 1 + 1 + 1,
            heap := h'.push { cls := .type "generator", data := .fields #[.int s4.gens.size 0, .str "<genexpr>" (s4.toks + 1), .str (X.env.qual ++ "<genexpr>") (s4.toks + 1 + 1)] } }) X.xe s3 := by
    intro code s3 I3 k3
    obtain ⟨bm, ob, e1, e2, e3, e4, e5, e6, e7, e8⟩ := TB.bm
    refine wpAny_builtinsFor (m := X.mg) (by rw [I3.ok.glob]; exact I3.mod.glob.keeps I3.bk) e1 e2 (I3.bk _ _ e5) e6 e7 e8 ?_
    intro h' hn' hs'
    have hsz : h'.objs.size = s3.heap.objs.size + 1 := by rw [hs'.1, Heap.size_push]
    have kp : ∀ b o, s3.heap.get? b = some o → (h'.push { cls := .type "generator", data := .fields #[.int s3.gens.size 0, .str "<genexpr>" (s3.toks + 1), .str (X.env.qual ++ "<genexpr>") (s3.toks + 1 + 1)] }).get? b = some o :=
      fun b o e => Heap.get?_push_of_some _ (hs'.extBut b o (Nat.ne_of_lt (Heap.lt_size e)) (Heap.get?_push_of_some _ e))
    generalize hga : ({ cls := .type "generator", data := .fields #[.int s3.gens.size 0, .str "<genexpr>" (s3.toks + 1), .str (X.env.qual ++ "<genexpr>") (s3.toks + 1 + 1)] } : Obj) = ga at kp ⊢
    have hig : ∀ h : Heap, h.get? h'.objs.size = some ga → h.IsGen h'.objs.size s3.gens.size := fun h e => ⟨ga, _, _, e, by rw [← hga], by rw [← hga], by rw [← hga]⟩
    generalize hce : genEnv scope (cloFrom X.env.cells scope.names []) s3.heap.objs.size code builtinsNs X.env = ce
    have ceo : ce.scope.isCoroutine = false := by rw [← hce]; exact ok.co
    have hBf : (X.A.in1.in1.over (.compLoop (.GeneratorExp elt [⟨tg, iter, ifs, 0⟩] scope gpos) 0 (.ref it) .none ce) []).frames = some (ce :: X.stack) := by
      show (X.A.frames).map ([ce] ++ ·) = _
      rw [I.ok.frames]; rfl
    have hBr : Room k (X.A.in1.in1.over (.compLoop (.GeneratorExp elt [⟨tg, iter, ifs, 0⟩] scope gpos) 0 (.ref it) .none ce) []) :=
      ⟨hr.hd, by have := hr.dp; show X.A.depth + 0 + 1 + 3 * k + 5 < _; omega, by have := hr.un; show X.A.units + 1 + 1 + 0 + 3 + 16 * k + 200 < _; omega⟩
    have st3 : tn 0 s3.heap := T.keep _ _ _ st2 fun b hb o e => k3 b o (nP b hb) e
    have hfp : ∀ b ∈ fp, FpOk X pins H2 b ∧ b < s3.heap.objs.size := fun b hb => ⟨f2 b hb, by
      obtain ⟨o, e, _⟩ := T.obj _ _ st3 b hb
      exact Heap.lt_size e⟩
    have hnew : (h'.push ga).get? h'.objs.size = some ga := Heap.get?_push_size _ (by rw [← hga]; rfl)
    have bare : AllBare (s3.gens.push (.fresh (.compStart (.GeneratorExp elt [⟨tg, iter, ifs, 0⟩] scope gpos) 0 (.ref it) .none ce))) := I3.bare.push rfl
    have I5 := gx_start (gs := s3.gens.push (.fresh (.compStart (.GeneratorExp elt [⟨tg, iter, ifs, 0⟩] scope gpos) 0 (.ref it) .none ce))) (tk := s3.toks + 1 + 1 + 1) (code := code) (B := X.A.in1.in1.over (.compLoop (.GeneratorExp elt [⟨tg, iter, ifs, 0⟩] scope gpos) 0 (.ref it) .none ce) []) I3 ok hN hfp hr.hd (by rw [hce]; exact hBf) kp (hn'.push _) hnew (by omega) (fun v e => by rw [← hga] at e; cases e) bare
    rw [hce] at I5
    have turns := gx_turns (Fb := fun b z => ∃ H', Inv X pins σ H' z ∧ Q (.bl b) H') (g := s3.gens.size) (s := s3) (Ag := X.A.in1.in1) (elt := elt) (iter := iter) (scope := scope) (pos := gpos) ceo T hig (fun hb => by have q : h'.objs.size < s3.heap.objs.size := (hfp _ hb).2; rw [hsz] at q; exact absurd q (Nat.not_lt.mpr (Nat.le_succ _)))
      (by rw [← hce] at hBr ⊢; exact hgt _ s3 H2 _ code fp [(h'.objs.size, ga)] hBr) (by rw [← hce] at hBr ⊢; exact htt _ s3 H2 _ code fp [(h'.objs.size, ga)] hBr) (by rw [← hce] at hBr ⊢; exact hte _ s3 H2 _ code fp [(h'.objs.size, ga)] hBr) turn
      (fun b pins' σ' H' y Iy hq gs hp hgs hk => ⟨H', I3.call' (ch := fp) Iy.os (Iy.base.trans (Un.kept hk)) (Iy.hok.kept hk) hgs fun b hb => ⟨(f2 b hb).2.2.2.1, (f2 b hb).2.1, (f2 b hb).2.2.2.2.1, (f2 b hb).2.2.2.2.2⟩, hq⟩)
    refine hQ _ s3.gens.size (m0 + 1) _ (hig _ hnew) (I3.nolimit.keeps kp) ⟨_, Array.getElem?_push_size .., rfl, ?_⟩
    have I6 := gens_any I5 (gs := (Shared.setGen { s3 with gens := s3.gens.push (.fresh (.compStart (.GeneratorExp elt [⟨tg, iter, ifs, 0⟩] scope gpos) 0 (.ref it) .none ce)), toks := s3.toks + 1 + 1 + 1, heap := h'.push ga } s3.gens.size .running).gens) (allBare_setGen bare rfl)
    have st6 : tn 0 (h'.push ga) := T.keep _ _ _ st3 fun b _ o e => kp b o e
    have loop := fun z => turns m0 (m0 + 1) 0 z _ H2 (Nat.lt_succ_self _) w0 I6 st6 fun b hb => (hfp b hb).1.1
    show Seg _ _ _ _ _ _ _ ((compStart (.GeneratorExp elt [⟨tg, iter, ifs, 0⟩] scope gpos) 0 (.ref it) .none ce).onRaise (leaving ce)) [] _
    unfold compStart
    rw [Sem.onRaise_eq_wrap]
    refine seg_bind_wrap (wpAny_askSetting ?_)
    split
    · exact seg_again rfl (loop _)
    · refine seg_bind_wrap (wpAny_rule ?_)
      refine seg_bind_wrap (wpAny_standAt ?_)
      exact seg_bind_wrap (T.self _ 0 _ _ _ st6 (seg_again rfl (loop _)))
  cases hf : codeAmong gpos ps.toList with
  | none =>
    refine wpAny_genexprCodeX hcode (cd.code hPs htr) (cd.tab hPs) hf fun c' h3 tk hx hge hlt hco' _ htab' _ => ?_
    obtain ⟨o1, vs, f1, tf, fl, tg', inF, tx, tt', op, _, _, _, _, _, _, _, _, _, htr', _⟩ := hco'
    exact cont _ _ (tab_grows I2 hP (fun b o hb e => hx b o hb e) htab'.2 htr') fun b o hb e => hx b o hb e
  | some cv => exact wpAny_genexprCode_hit hcode (cd.code hPs htr) hf (cont cv s2 I2 fun _ _ _ e => e)
/-- all(e for t in i if ..) -/
theorem pe_allQ {elt tg iter : Expr} {ifs : List Expr} {scope : Scope} {own : List (Str × Nat)} {p pos gpos : Pos} {wi : TI} {gt : TG} {tt : TT} {te : TE} {k : Nat} {c P : Addr} (hr : Room (k + 1) X.A) (hgl : Gl X "all") (hm : X.mg "all" = none) (hb : bootBuiltins "all" = some (.builtin "all"))
    (TB : LamX.TabB X.base X.mg c P) (hcode : X.env.code = .ref c) (ok : GScp X.N X.env.scope scope own) (hN : X.N.Nodup) (hi : PI X tg iter wi)
    (hgt : ∀ (B : Around) (s : Shared) (H : Hp) (C : Addr) (cd : Value) (fp : List Addr) (pn : List (Addr × Obj)), Room k B → PG (gx X B s H (genEnv scope (cloFrom X.env.cells scope.names []) C cd builtinsNs X.env) fp pn) tg gt)
    (htt : ∀ (B : Around) (s : Shared) (H : Hp) (C : Addr) (cd : Value) (fp : List Addr) (pn : List (Addr × Obj)), Room k B → PTs (gx X B s H (genEnv scope (cloFrom X.env.cells scope.names []) C cd builtinsNs X.env) fp pn) ifs tt)
    (hte : ∀ (B : Around) (s : Shared) (H : Hp) (C : Addr) (cd : Value) (fp : List Addr) (pn : List (Addr × Obj)), Room k B → PE (gx X B s H (genEnv scope (cloFrom X.env.cells scope.names []) C cd builtinsNs X.env) fp pn) elt te)
    (hs : ∀ v, genFold iter X.env v = pure v := by intro _; rfl)
    (he : starEach [.GeneratorExp elt [⟨tg, iter, ifs, 0⟩] scope gpos] X.env = (false, eval (.GeneratorExp elt [⟨tg, iter, ifs, 0⟩] scope gpos) X.env) :: starEach [] X.env := by rfl) :
    PE X (.Call (.Name "all" p) [.GeneratorExp elt [⟨tg, iter, ifs, 0⟩] scope gpos] [] pos) (tQ P wi gt tt te (own.map (·.2)) false) := by
  refine ⟨fun pins s σ H Q I h => ?_⟩
  refine wpAny_Call_Name_kw (ld_blt I hgl hm hb ?_)
  refine PyProof.Rows.callWith_builtin1 ?_ he (by rfl)
  rw [he]
  show wpAny _ _ (spliced ((false, eval (.GeneratorExp elt [⟨tg, iter, ifs, 0⟩] scope gpos) X.env) :: backTo pos (starEach [] X.env))) _ _ s
  refine Calls.spliced_cons (gen_new (stop := false) hr TB hcode ok hN hi hgt htt hte hs I h fun a g n y hg hl hq => ?_)
  refine Calls.spliced_nil ?_
  exact call_all_gen hr.hd hr.depth hg hl hq fun b z ⟨H', J, q⟩ => ⟨.bl b, H', J, rfl, q⟩
/-- any(e for t in i if ..) -/
theorem pe_anyQ {elt tg iter : Expr} {ifs : List Expr} {scope : Scope} {own : List (Str × Nat)} {p pos gpos : Pos} {wi : TI} {gt : TG} {tt : TT} {te : TE} {k : Nat} {c P : Addr} (hr : Room (k + 1) X.A) (hgl : Gl X "any") (hm : X.mg "any" = none)
    (TB : LamX.TabB X.base X.mg c P) (hcode : X.env.code = .ref c) (ok : GScp X.N X.env.scope scope own) (hN : X.N.Nodup) (hi : PI X tg iter wi)
    (hgt : ∀ (B : Around) (s : Shared) (H : Hp) (C : Addr) (cd : Value) (fp : List Addr) (pn : List (Addr × Obj)), Room k B → PG (gx X B s H (genEnv scope (cloFrom X.env.cells scope.names []) C cd builtinsNs X.env) fp pn) tg gt)
    (htt : ∀ (B : Around) (s : Shared) (H : Hp) (C : Addr) (cd : Value) (fp : List Addr) (pn : List (Addr × Obj)), Room k B → PTs (gx X B s H (genEnv scope (cloFrom X.env.cells scope.names []) C cd builtinsNs X.env) fp pn) ifs tt)
    (hte : ∀ (B : Around) (s : Shared) (H : Hp) (C : Addr) (cd : Value) (fp : List Addr) (pn : List (Addr × Obj)), Room k B → PE (gx X B s H (genEnv scope (cloFrom X.env.cells scope.names []) C cd builtinsNs X.env) fp pn) elt te)
    (hs : ∀ v, genFold iter X.env v = pure v := by intro _; rfl)
    (he : starEach [.GeneratorExp elt [⟨tg, iter, ifs, 0⟩] scope gpos] X.env = (false, eval (.GeneratorExp elt [⟨tg, iter, ifs, 0⟩] scope gpos) X.env) :: starEach [] X.env := by rfl) :
    PE X (.Call (.Name "any" p) [.GeneratorExp elt [⟨tg, iter, ifs, 0⟩] scope gpos] [] pos) (tQ P wi gt tt te (own.map (·.2)) true) := by
  refine ⟨fun pins s σ H Q I h => ?_⟩
  refine wpAny_Call_Name_kw (ld_blt I hgl hm boot_any ?_)
  refine PyProof.Rows.callWith_builtin1 ?_ he (by rfl)
  rw [he]
  show wpAny _ _ (spliced ((false, eval (.GeneratorExp elt [⟨tg, iter, ifs, 0⟩] scope gpos) X.env) :: backTo pos (starEach [] X.env))) _ _ s
  refine Calls.spliced_cons (gen_new (stop := true) hr TB hcode ok hN hi hgt htt hte hs I h fun a g n y hg hl hq => ?_)
  refine Calls.spliced_nil ?_
  exact call_any_gen hr.hd hr.depth hg hl hq fun b z ⟨H', J, q⟩ => ⟨.bl b, H', J, rfl, q⟩
end
end L2.Gq
set_option maxHeartbeats 4000000
/-! enumerate(xs, start=k), xs a list. -/
namespace PySem
open Sem (wp)
open AutoSeq1 (wpAny_loadPart')
abbrev enOf (it : Addr) (k : Int) : Obj := { cls := .type "enumerate", data := .fields #[.none, .bool false, .ref it, rawInt k, .none, .none] }
theorem meets_enumFrom (l : Addr) (items : Array Value) (n : Nat) (dct : Option Addr) (sl : Array (Option Value)) (k : Int) (t : Tok) (hk : Builtin.SmallTypes.fitsIndex k = true) :
    Meets (Builtin.«enumerate.__new__» ⟨[.type "enumerate", .ref l], [("start", .int k t)]⟩) (fun _ R s => s.heap.get? l = some { cls := .type "list", dict := dct, data := .seq items n, slots := sl } ∧
      R (.ok (.ret (.ref (s.heap.push { cls := .type "list_iterator", data := .fields #[.ref l, .int 0 0] }).objs.size)))
        { s with heap := (s.heap.push { cls := .type "list_iterator", data := .fields #[.ref l, .int 0 0] }).push (enOf s.heap.objs.size k) }) :=
  .of_wp fun prog w A R s h => by
    obtain ⟨hp, g, d, tk, os⟩ := s; obtain ⟨hl, h⟩ := h
    have hsub := sub_enumerate
    have hL : Heap.IsList (Shared.heap ⟨hp, g, d, tk, os⟩) l items := ⟨_, hl, rfl, n, rfl⟩
    wp_walk using wpAny_loadPart' hl
    refine wpAny_stack_any fun st => wpAny_pure ?_
    have e1 : (!Builtin.SmallTypes.fitsIndex k) = false := by rw [hk]; rfl
    split
    · rename_i c _ _ _ _ _
      cases (c == Value.type "enumerate")
      · wp_walk using wpAny_loadPart' hl, wpAny_pyIter_list hL
        exact ⟨_, rfl, h⟩
      · wp_walk using wpAny_loadPart' hl, wpAny_pyIter_list hL
        exact ⟨_, rfl, h⟩
    · wp_walk using wpAny_loadPart' hl, wpAny_pyIter_list hL
      exact ⟨_, rfl, h⟩
theorem typeCall_enumFrom (a b : Value) : checkTypeCall "enumerate" ⟨[a], [("start", b)]⟩ = pure () := by kernel_rfl
theorem newCall_enumFrom (a b : Value) : checkBuiltinCall "enumerate.__new__" ⟨[.type "enumerate", a], [("start", b)]⟩ = pure () := by kernel_rfl
theorem args_initFrom (o a b : Value) : argsOk "object.__init__" ⟨[o, a], [("start", b)]⟩ := by
  unfold argsOk; rw [signature?_of (id := "object.__init__") (n := ['_', '_', 't', 'i', 'n', 'i', '_', '_']) (o := ['t', 'c', 'e', 'j', 'b', 'o']) (by kernel_rfl) F.owner_object]; kernel_rfl
theorem init_enumFrom {self a b : Value} :
    Meets (Builtin.«object.__init__» ⟨[self, a], [("start", b)]⟩) (fun _ R s => s.TypeIs self "enumerate" ∧ R (.ok (.ret .none)) s) := by
  refine Meets.of_wp fun prog w A R s hs => ?_
  obtain ⟨hT, hq⟩ := hs
  have hl := F.called_enumerate.init.lookup
  have hm := F.called_enumerate.made
  have hne : (some "enumerate.__new__" != some "object.__new__") = true := by decide
  repeat (any_goals (first | assumption | wp_step))
  exact ⟨_, rfl, hq⟩
section
variable {prog : Program} {w : World} {A : Around} {E : Value → Shared → Prop} {s : Shared}
theorem call_enumFrom {l : Addr} {items : Array Value} {k : Int} {t : Tok} {Q : Value → Shared → Prop} (hL : s.heap.IsList l items) (hk : Builtin.SmallTypes.fitsIndex k = true)
    (h : ∀ h', IsEnum h' (s.heap.objs.size + 1) s.heap.objs.size k .none → h'.IsListIter s.heap.objs.size l 0 → h'.objs.size = s.heap.objs.size + 2 →
      (∀ b o, s.heap.get? b = some o → h'.get? b = some o) → Q (.ref (s.heap.objs.size + 1)) { s with heap := h' }) :
    wpAny (model prog w) A (call (.type "enumerate") [.ref l] [("start", .int k t)]) Q E s := by
  obtain ⟨⟨c0, dct, dt, sl⟩, hl, hc, n, hd⟩ := hL
  have hc : c0 = .type "list" := hc
  have hd : dt = .seq items n := hd
  subst hc hd
  have ft := F.called_enumerate
  obtain ⟨c, tl, hmro⟩ := ft.mro
  have hmade := ft.made
  have hsub := ft.sub
  refine wpAny_call (codeAny_of_tree ?_)
  show wpAny _ _ (callAny (.type "enumerate") _) _ _ _
  refine wpAny_pure ⟨Code.quiet_builtin _ (by decide +kernel), codeAny_builtin F.entry_type_call ?_⟩
  rw [Around.under_plain (weight_type_call_type "enumerate" [.ref l] [("start", .int k t)]) (units_type_call_type "enumerate" [.ref l] [("start", .int k t)])]
  have h1 := ft.notType
  have h2 := ft.canCreate
  have hct := typeCall_enumFrom (.ref l) (.int k t)
  repeat (any_goals (first | assumption | wp_step))
  have hcn := newCall_enumFrom (.ref l) (.int k t)
  have hz : (s.heap.push { cls := .type "list_iterator", data := .fields #[.ref l, .int 0 0] }).objs.size = s.heap.objs.size + 1 := Heap.size_push ..
  have he : IsEnum ((s.heap.push { cls := .type "list_iterator", data := .fields #[.ref l, .int 0 0] }).push (enOf s.heap.objs.size k)) (s.heap.objs.size + 1) s.heap.objs.size k .none := by
    have q := Heap.get?_push_size (s.heap.push { cls := .type "list_iterator", data := .fields #[.ref l, .int 0 0] }) (o := enOf s.heap.objs.size k) rfl
    rw [hz] at q; exact q
  refine codeAny_mono (codeAny_call_builtin ft.plain F.entry_enumerate_new (wpAny_of_eq hcn (meets_enumFrom l items n dct sl k t hk prog w A.in1 (wants (fun obj s₁ => s₁.TypeIs obj "enumerate" ∧ Q obj s₁) E) s ⟨hl, ?_⟩))) fun r s₁ hr => ?_
  · show _ ∧ _
    rw [hz]
    exact ⟨⟨_, he, rfl⟩, h _ he ⟨_, Heap.get?_push_of_some _ (Heap.get?_push_size _ rfl), rfl, rfl⟩ (by rw [Heap.size_push, hz]) fun b o x => Heap.get?_push_of_some _ (Heap.get?_push_of_some _ x)⟩
  cases r with
  | error e => exact hr
  | ok fl =>
    cases fl with
    | ret obj =>
      obtain ⟨hT, hq⟩ := hr
      have hok := args_initFrom obj (.ref l) (.int k t)
      have hli := ft.init.lookup
      have hbi := ft.init.bind obj
      repeat (any_goals (first | assumption | wp_step))
      refine codeAny_mono (codeAny_call_builtin ft.init.plain F.entry_object_init (ft.init.check _ _ _ _ _ _ _ _ hT hok (init_enumFrom prog w A.in1 (wants (fun r s₂ => r = .none ∧ Q obj s₂) E) s₁ ⟨hT, rfl, hq⟩))) fun r₂ s₂ hr₂ => ?_
      cases r₂ with
      | error e => exact hr₂
      | ok fl₂ =>
        cases fl₂ with
        | ret r =>
          obtain ⟨rfl, hq⟩ := hr₂
          repeat (any_goals (first | assumption | wp_step))
        | _ => exact hr₂.elim
    | _ => exact hr.elim
end
end PySem
namespace L2.Enf
open PySem PySem.Spec PyProof.Rows
theorem callWith_typeKw {M : Model} {A : Around} {E : Value → Shared → Prop} {s : Shared} {env : Env} {pos : Pos} {T : String} {e : Expr} {rest : List Expr} {kws : List Keyword} {Q : Value → Shared → Prop}
    (h : wpAny M A (spliced (backTo pos (starEach (e :: rest) env))) (fun vs s₁ => wpAny M A (evalAll ((backToKw pos (keywordEach kws env)).map (·.2)))
      (fun kvs s₂ => wpAny M A (call (.type T) vs (((backToKw pos (keywordEach kws env)).filterMap (·.1)).zip kvs)) Q E s₂) E s₁) E s)
    (he : backTo pos (starEach (e :: rest) env) = (false, eval e env) :: backTo pos (starEach rest env) := by rfl)
    (hplain : (backTo pos (starEach (e :: rest) env)).any (·.1) = false := by rfl)
    (hall : (backToKw pos (keywordEach kws env)).all (·.1.isSome) = true := by rfl)
    (hkw : (backToKw pos (keywordEach kws env)).any (·.1.isNone) = false := by rfl) :
    wpAny M A (callWith pos (.type T) [] (backTo pos (starEach (e :: rest) env)) (backToKw pos (keywordEach kws env))) Q E s := by
  have core : wpAny M A (evalArgs (.type T) true (backTo pos (starEach (e :: rest) env)) (backToKw pos (keywordEach kws env))) (fun a s₁ => wpAny M A (call (.type T) ([] ++ a.pos) a.kw) Q E s₁) E s := by
    rw [he] at h ⊢
    exact evalArgs_kwB hall h
  unfold callWith
  refine wpAny_bind (wpAny_holding (wpAny_mono core (fun a s₁ h₁ => wpAny_bind (wpAny_standAt ?_)) fun _ _ x => x))
  simp only [hplain, hkw, Bool.or_false]
  refine wpAny_bind (wpAny_pure ?_)
  exact wpAny_bind (wpAny_mono h₁ (fun r s₂ hr => wpAny_bind (wpAny_holding (wpAny_point (wpAny_pure hr)))) fun _ _ x => x)
/-- the items from k on, each in a new pair -/
def Itf (K : PySem.W.Frag) (k : Nat) (a : Addr) : It :=
  ⟨fun i H => ∃ (xs : List V) (x : V), SqL K H a xs ∧ xs[i]? = some x, fun i H v H' => ∃ T x, v = .ref T ∧ H T = none ∧ H' = upd H T (.tup [.int ((k + i : Nat) : Int), x]) ∧ ∀ xs, SqL K H a xs → xs[i]? = some x, fun i H => ∃ xs : List V, SqL K H a xs ∧ xs.length ≤ i⟩
/-- a list's iterator, its turns counted from k on -/
theorem draws_from {prog : Program} {w : World} {A : Around} (hh : A.handled = none) (it l : Addr) (hne : l ≠ it) (items : Array Value) (k : Nat) :
    Draws prog w A it [it, l] (k + items.size) (fun j v => ∃ i, j = k + i ∧ items[i]? = some v) (fun j h => ∃ i, j = k + i ∧ h.IsListIter it l i ∧ h.IsList l items) where
  live := fun _ _ ⟨_, _, st, _⟩ => let ⟨o, ho, _⟩ := st; ⟨o, ho⟩
  frame := fun _ _ _ ⟨i, e, st, st2⟩ hk => ⟨i, e, st.at fun o e => hk it (by simp) o e, st2.at fun o e => hk l (by simp) o e⟩
  item := fun j s Q E hj ⟨i, e, st, st2⟩ hQ => by
    subst e
    have hi : i < items.size := by omega
    exact (Draws.list (prog := prog) (w := w) hh it l hne items).item i s Q E hi ⟨st, st2⟩ fun x h' tk hx ⟨s1, s2⟩ sb => hQ x h' tk ⟨i, rfl, hx⟩ ⟨i + 1, by omega, s1, s2⟩ sb
  done := fun s Q E ⟨i, e, st, st2⟩ hE => by
    have hi : i = items.size := by omega
    subst hi
    exact (Draws.list (prog := prog) (w := w) hh it l hne items).done s Q E ⟨st, st2⟩ hE
/-- such an iterator behind its end -/
theorem draws_over {prog : Program} {w : World} {A : Around} (hh : A.handled = none) (it l : Addr) (items : Array Value) (i k : Nat) (hx : items[i]? = none) :
    Draws prog w A it [it, l] (k + i) (fun _ _ => False) (fun j h => j = k + i ∧ h.IsListIter it l i ∧ h.IsList l items) where
  live := fun _ _ ⟨_, st, _⟩ => let ⟨o, ho, _⟩ := st; ⟨o, ho⟩
  frame := fun _ _ _ ⟨e, st, st2⟩ hk => ⟨e, st.at fun o e => hk it (by simp) o e, st2.at fun o e => hk l (by simp) o e⟩
  item := fun j s Q E hj ⟨e, _⟩ hQ => absurd hj (by omega)
  done := fun s Q E ⟨_, st, st2⟩ hE => wpAny_nextOf_list_end hh st st2 hx hE
theorem turn_from {P : Program} {w : World} {K : PySem.W.Frag} {elts : List Expr} {kk : Nat} {tpos : Pos} (k : Nat) (a e it : Addr) :
    Turn P w K (.Tuple elts kk tpos) (Itf K k a) [e, it] e (fun i h => (∃ old, IsEnum h e it ((k + i : Nat) : Int) old) ∧ h.IsListIter it a i ∧ e ≠ it) where
  mem := by simp
  obj := fun i h st b hb => by
    obtain ⟨⟨old, he⟩, ⟨o, ho, hc, hd⟩, _⟩ := st
    have e' : b = e ∨ b = it := by simpa using hb
    rcases e' with z | z
    · rw [z]; exact ⟨_, he, fun v q => nomatch q⟩
    · rw [z]; exact ⟨o, ho, fun v q => by rw [hd] at q; cases q⟩
  keep := fun i h h' st kp => let ⟨⟨old, he⟩, hi, hne⟩ := st; ⟨⟨old, kp e (by simp) _ he⟩, hi.at fun o q => kp it (by simp) o q, hne⟩
  item := by
    intro X hP hw hK hc i pins s σ H E I hf st hg
    subst hP hw hK
    obtain ⟨⟨old, he⟩, hit, hne⟩ := st
    obtain ⟨xs, x, hq, hx⟩ := hg
    obtain ⟨its, rv, p, hz⟩ := I.list hq
    obtain ⟨u, hu, ru⟩ := rv.get hx
    have hel : e < s.heap.objs.size := Heap.lt_size he
    have hil : it < s.heap.objs.size := by obtain ⟨_, q, _⟩ := hit; exact Heap.lt_size q
    have hai : a ≠ it := fun z => by
      obtain ⟨o1, e1, c1, d1⟩ := hit
      obtain ⟨o2, e2, c2, n2, d2⟩ := p.isList
      rw [z, e1] at e2
      cases e2
      rw [d1] at d2
      cases d2
    have hae : a ≠ e := fun z => by
      obtain ⟨o2, e2, c2, n2, d2⟩ := p.isList
      rw [z, he] at e2
      cases e2
      cases d2
    have hil2 : i < its.length := by
      have q := List.getElem?_eq_some_iff.mp hu
      exact q.1
    refine wpAny_pyNext_enum_itemD (draws_from (A := X.A.in1) (I.ok.hd hc) it a hai its.toArray k) (i := k + i) he ⟨i, rfl, hit, p.isList⟩ (by simp; exact hil2) hne (by simp; exact ⟨hne, Ne.symm hae⟩) fun x' h' tk hx' ho hst hT hsz hk => ?_
    obtain ⟨i', ei, hx'⟩ := hx'
    have ei : i' = i := by omega
    subst ei
    have exu : x' = u := by
      have q : its.toArray[i']? = some u := by simpa using hu
      rw [q] at hx'
      exact (Option.some.inj hx').symm
    subst exu
    obtain ⟨i2, ei2, hit', _⟩ := hst
    have ei2 : i2 = i' + 1 := by omega
    subst ei2
    refine ⟨_, rfl, wpAny_letOwnedTupleGo_enum (s := { s with heap := h', toks := tk + 1 }) ho fun h'' he' sb => ?_⟩
    have hT2 : h''.get? s.heap.objs.size = some { cls := .type "tuple", data := .seq #[.int ((k + i' : Nat) : Int) tk, x'] } := (sb.2 _ (Nat.ne_of_gt hel)).trans hT
    have new : ObjOk X.prog X.w (upd H s.heap.objs.size (.tup [.int ((k + i' : Nat) : Int), x])) h'' s.heap.objs.size (.tup [.int ((k + i' : Nat) : Int), x]) :=
      ⟨by show 2 ≤ sizeLine; decide, [.int ((k + i' : Nat) : Int) tk, x'], .cons ⟨_, rfl⟩ (.cons ru .nil), ⟨_, hT2, rfl, _, rfl⟩⟩
    have I1 : Inv X pins σ (upd H s.heap.objs.size (.tup [.int ((k + i' : Nat) : Int), x])) { s with heap := h'', toks := tk + 1 } :=
      I.turnedNew (ch := [e, it]) (fun b ob hb q => (sb.2 b (fun z => hb (by simp [z]))).trans (hk b ob (fun z => hb (by simp [z])) (fun z => hb (by simp [z])) q)) hf (Nat.le_refl _) new
    refine ⟨.ref s.heap.objs.size, _, I1, rfl, ⟨_, x, rfl, I.hok.fresh (Nat.le_refl _), rfl, fun ys hy => by rw [I.list_inj hy hq]; exact hx⟩, ⟨⟨x', ?_⟩, hit'.at fun o q => (sb.2 it (Ne.symm hne)).trans q, hne⟩, fun b hb => ?_⟩
    · have e1 : ((k + (i' + 1) : Nat) : Int) = ((k + i' : Nat) : Int) + 1 := by omega
      rw [e1]; exact he'
    · have hb' : b < s.heap.objs.size := by
        have e' : b = e ∨ b = it := by simpa using hb
        rcases e' with z | z
        · rw [z]; exact hel
        · rw [z]; exact hil
      rw [upd_ne (Nat.ne_of_lt hb')]
      exact (hf b hb).1
  done := by
    intro X hP hw hK hc i pins s σ H E I hf st hg
    subst hP hw hK
    obtain ⟨⟨old, he⟩, hit, hne⟩ := st
    obtain ⟨xs, hq, hx⟩ := hg
    obtain ⟨its, rv, p, hz⟩ := I.list hq
    obtain ⟨f0, f1, f2, f3, f4, f5⟩ := hf it (by simp)
    have hl := rv.length
    have hai : a ≠ it := fun z => by
      obtain ⟨o1, e1, c1, d1⟩ := hit
      obtain ⟨o2, e2, c2, n2, d2⟩ := p.isList
      rw [z, e1] at e2
      cases e2
      rw [d1] at d2
      cases d2
    have hx' : its.toArray[i]? = none := by
      have q : its[i]? = none := List.getElem?_eq_none_iff.mpr (by omega)
      simpa using q
    exact wpAny_pyNext_enum_endD (draws_over (A := X.A.in1) (I.ok.hd hc) it a its.toArray i k hx') he ⟨rfl, hit, p.isList⟩ fun h' eb => ⟨rfl, I.turned (t' := s.toks) (fun b o hb q => eb b o hb q) f0 f1 f3 f4 f5⟩
  self := fun A i s Q E st h => let ⟨⟨_, he⟩, _⟩ := st; wpAny_pyIter_enum he h
def iFrom (K : PySem.W.Frag) (k : Nat) (ta : TA) : TI := fun σ H R => ta σ H fun vs H1 => ∃ a xs, vs = [.ref a] ∧ SqL K H1 a xs ∧ R (Itf K k a) H1
theorem pi_from {X : Cx} {e : Expr} {ta : TA} {p pos tpos kp cp : Pos} {elts : List Expr} {kk j k : Nat} (hg : Gl X "enumerate") (hm : X.mg "enumerate" = none) (ha : PA X [e] ta) (hk : Builtin.SmallTypes.fitsIndex ((k : Nat) : Int) = true) (hs : starEach [e] X.env = [(false, eval e X.env)] := by rfl) :
    PI X (.Tuple elts kk tpos) (.Call (.Name "enumerate" p) [e] [⟨some "start", .Constant (.int ((k : Nat) : Int)) j cp, kp⟩] pos) (iFrom X.K k ta) := by
  refine ⟨fun pins s σ H R I h => ?_⟩
  refine wpAny_Call_Name_kw (ld_blt I hg hm boot_enumerate ?_)
  refine callWith_typeKw (kws := [⟨some "start", .Constant (.int ((k : Nat) : Int)) j cp, kp⟩]) (thn (ha.run pos pins s σ H _ I h) fun us s1 ⟨vs, H1, I1, r1, q1⟩ => ?_) (by rw [hs]; rfl) (by rw [hs]; rfl)
  obtain ⟨a, xs, ex, hq, q⟩ := q1
  subst ex
  cases r1 with
  | cons r rr =>
    cases rr
    cases r
    refine kws_cons ?_
    refine thn ((pe_int (X := X) (i := ((k : Nat) : Int)) (j := j) (pos := cp)).run pins s1 σ H1 (fun v H' => v = .int ((k : Nat) : Int) ∧ H' = H1) I1 ⟨rfl, rfl⟩) fun kv s2 ⟨v, H', I2, r2, ev, eH⟩ => ?_
    subst ev eH
    obtain ⟨t, rfl⟩ := r2
    refine kws_nil ?_
    obtain ⟨its, rv, p', hz⟩ := I2.list hq
    refine call_enumFrom p'.isList hk fun h' he hit hsz hk' => wpAny_pyIter_enum he ?_
    have I3 : Inv X pins σ H' { s2 with heap := h' } := I2.kept (t' := s2.toks) hk'
    refine ⟨s2.heap.objs.size + 1, [s2.heap.objs.size + 1, s2.heap.objs.size], _, _, H', rfl, I3, turn_from k a (s2.heap.objs.size + 1) s2.heap.objs.size, ⟨⟨.none, he⟩, hit, Nat.succ_ne_self _⟩, fun b hb => ?_, q⟩
    have hb' : b = s2.heap.objs.size + 1 ∨ b = s2.heap.objs.size := by simpa using hb
    have hle : s2.heap.objs.size ≤ b := by
      rcases hb' with z | z
      · rw [z]; exact Nat.le_succ _
      · rw [z]; exact Nat.le_refl _
    exact I2.fpOk hle (I2.hok.fresh hle)
end L2.Enf
set_option maxHeartbeats 4000000
/-! set(xs), xs a list of any few texts; how many they are. -/
namespace L2.Sett
open PySem PySem.Spec PyProof.Rows
/-- the texts met in the first i, each once: how many -/
def met (xs : List Str) : Nat → Nat
  | 0 => 0
  | i + 1 => if (xs.take i).any (· == xs.getD i Str.empty) = true then met xs i else met xs i + 1
theorem met_step (xs : List Str) (i : Nat) : met xs (i + 1) = if (xs.take i).any (· == xs.getD i Str.empty) = true then met xs i else met xs i + 1 := rfl
theorem met_le (xs : List Str) : ∀ i, met xs i ≤ i
  | 0 => Nat.le_refl _
  | i + 1 => by
    have q := met_le xs i
    unfold met
    split <;> omega
theorem take_succ_getD {xs : List Str} {i : Nat} (h : i < xs.length) : xs.take (i + 1) = xs.take i ++ [xs.getD i Str.empty] := by
  rw [List.take_add_one, List.getElem?_eq_getElem h]
  have e : xs.getD i Str.empty = xs[i] := by rw [List.getD_eq_getElem?_getD, List.getElem?_eq_getElem h]; rfl
  rw [e]; rfl
theorem met_nodup (xs : List Str) (h : xs.Nodup) : ∀ i, i ≤ xs.length → met xs i = i
  | 0, _ => rfl
  | i + 1, hi => by
    have hl : i < xs.length := hi
    have q := met_nodup xs h i (Nat.le_of_lt hl)
    have hn : (xs.take i).any (· == xs.getD i Str.empty) = false := by
      rw [List.any_eq_false]
      intro y hy e
      have e2 : xs.getD i Str.empty = xs[i] := by rw [List.getD_eq_getElem?_getD, List.getElem?_eq_getElem hl]; rfl
      have e1 : y = xs[i] := by rw [← e2]; exact eq_of_beq e
      obtain ⟨j, hj, ej⟩ := List.getElem_of_mem hy
      have hj2 : j < i := by
        have := hj
        rw [List.length_take] at this
        omega
      rw [List.getElem_take] at ej
      have := (List.getElem_inj (h₀ := (by omega : j < xs.length)) (h₁ := hl) h).mp (ej.trans e1)
      omega
    unfold met
    rw [hn, q]
    simp
section
variable {prog : Program} {w : World} {A : Around} {R : Result → Shared → Prop} {I : Addr} {fp wr : List Addr} {G : Array GenState → Array GenState → Prop} {P : Nat → Value → Prop} {St : Nat → Shared → Prop}
theorem set_turns (xs : List Str) (W : WalksS prog w A.in1 I fp wr G xs.length P St) (S : Addr) (hSf : S ∉ fp) (room : xs.length + 1 < scanBound) (hval : ∀ i v, P i v → ∃ t, v = .str (xs.getD i Str.empty) t) :
    ∀ (k i : Nat) (z : Shared), xs.length - i = k → i ≤ xs.length → St i z → z.heap.SetOf (PySem.strKind prog w) S (fun y => (xs.take i).any (· == y)) (met xs i) →
      (∀ y, Moved (S :: wr) G z y → y.heap.SetOf (PySem.strKind prog w) S (fun y => xs.any (· == y)) (met xs xs.length) → R (.ok (.ret .none)) y) →
      codeAny (model prog w) A (.builtin "set.update.loop" ⟨[.ref S, .ref I], []⟩) R z := by
  have hSw : S ∉ wr := fun h => hSf (W.sub _ h)
  have up : ∀ b ∈ wr, b ∈ S :: wr := fun b hb => List.mem_cons_of_mem _ hb
  intro k
  induction k with
  | zero =>
    intro i z hk hi st hS hR
    obtain rfl : i = xs.length := by omega
    refine codeAny_builtin PyProof.Rows.F.entry_set_update_loop ?_
    rw [Around.under_plainId PyProof.Rows.F.plain_set_update_loop _]
    show wpAny _ A.in1 (pyNext (.ref I) >>= _) _ _ z
    refine wpAny_bind (W.done z _ _ st fun y hm => ?_)
    show wpAny _ A.in1 (ret Value.none) _ _ y
    refine wpAny_pure (hR y (hm.mono up) ?_)
    obtain ⟨o, es, ep, t, ho, more⟩ := hS
    rw [List.take_length] at more
    exact ⟨o, es, ep, t, hm.heap S _ hSw ho, more⟩
  | succ k ih =>
    intro i z hk hi st hS hR
    have hlt : i < xs.length := by omega
    refine codeAny_builtin PyProof.Rows.F.entry_set_update_loop ?_
    rw [Around.under_plainId PyProof.Rows.F.plain_set_update_loop _]
    show wpAny _ A.in1 (pyNext (.ref I) >>= _) _ _ z
    refine wpAny_bind (W.item i z _ _ hlt st fun v y hP st' hm => ?_)
    obtain ⟨t, rfl⟩ := hval i v hP
    have hS' : y.heap.SetOf (PySem.strKind prog w) S (fun y => (xs.take i).any (· == y)) (met xs i) := by
      obtain ⟨o, es, ep, tb, ho, more⟩ := hS
      exact ⟨o, es, ep, tb, hm.heap S _ hSw ho, more⟩
    show wpAny _ A.in1 (holding [Value.str (xs.getD i Str.empty) t] (setAdd S (.str (xs.getD i Str.empty) t)) >>= _) _ _ y
    refine wpAny_bind (wpAny_holding ?_)
    unfold setAdd
    refine wpAny_holding (wpAny_bind ((PySem.strKind prog w).pyHash (k := xs.getD i Str.empty) (strKind_is _ _ _ _) ?_))
    refine wpAny_setAddHashed_of (knd := PySem.strKind prog w) (s := { y with toks := y.toks + 1 }) (strKind_is _ _ _ _) rfl hS' (by have := met_le xs i; omega) fun h' hsb hS2 => ?_
    have hSi : h'.SetOf (PySem.strKind prog w) S (fun y => (xs.take (i + 1)).any (· == y)) (met xs (i + 1)) := by
      refine PyProof.Rows.SetOf_congr hS2 (fun k' => ?_) (met_step xs i).symm
      rw [take_succ_getD hlt, List.any_append]
      by_cases e : k' = xs.getD i Str.empty
      · subst e; simp
      · have hb : (xs.getD i Str.empty == k') = false := by
          rw [beq_eq_false_iff_ne]; exact fun q => e q.symm
        rw [List.any_cons, List.any_nil, Bool.or_false, hb, decide_eq_false e]
    refine wpAny_pure ⟨plainId_quiet PyProof.Rows.F.plain_set_update_loop _, ih (i + 1) _ (by omega) hlt (W.frame _ y _ _ st' (Nat.le_succ _) fun b hb o e => ?_) hSi fun y2 hm2 hS3 => ?_⟩
    · rw [hsb.2 b (fun q : b = S => hSf (by rw [← q]; exact hb))]; exact e
    · refine hR y2 (Moved.trans W.gtrans ((hm.mono up).then_heap (Nat.le_succ _) fun b o hb e => ?_) hm2) hS3
      rw [hsb.2 b (fun q : b = S => hb (by rw [q]; exact List.mem_cons_self))]; exact e
theorem call_set_texts {E : Value → Shared → Prop} {s : Shared} {l : Addr} {items : Array Value} {xs : List Str} {Q : Value → Shared → Prop} (hh : A.handled = none) (hl : s.heap.IsList l items) (hi : PyProof.Rows.StrsAre items.toList xs) (room : xs.length + 1 < scanBound)
    (h : ∀ (h' : Heap) (tk : Nat), h'.SetOf (PySem.strKind prog w) s.heap.objs.size (fun y => xs.any (· == y)) (met xs xs.length) → (∀ b o, b < s.heap.objs.size → s.heap.get? b = some o → h'.get? b = some o) → Q (.ref s.heap.objs.size) { s with heap := h', toks := tk }) :
    wpAny (model prog w) A (call (.type "set") [.ref l]) Q E s := by
  have ft := PySem.F.called_set
  obtain ⟨c, tl, hmro⟩ := ft.mro
  have hmade := ft.made
  have hsub := ft.sub
  have hct := PySem.F.typeCall_set_1 (.ref l)
  have h1 := ft.notType
  have h2 := ft.canCreate
  refine wpAny_call (codeAny_of_tree ?_)
  show wpAny _ _ (callAny (.type "set") _) _ _ _
  refine wpAny_pure ⟨Code.quiet_builtin _ (by decide +kernel), codeAny_builtin PySem.F.entry_type_call ?_⟩
  rw [Around.under_plain (weight_type_call_type "set" [.ref l] []) rfl]
  repeat (any_goals (first | assumption | wp_step))
  generalize hN : s.heap.objs.size = N at h ⊢
  refine codeAny_mono (code_set_new_1 (.ref l) (E := E) (Q₁ := fun obj s₁ => ∃ led : Bool, obj = .ref N ∧ s₁ = { s with heap := s.heap.push { cls := .type "set", dict := none, data := .set #[] 0 (.fresh 0 0 led) } }) fun led => ⟨led, by rw [hN], rfl⟩) fun r s₁ hr => ?_
  cases r with
  | error e => exact hr
  | ok fl =>
    cases fl with
    | ret obj =>
      obtain ⟨led, rfl, rfl⟩ := hr
      generalize hob : ({ cls := .type "set", dict := none, data := .set #[] 0 (.fresh 0 0 led) } : Obj) = ob
      have hS : (s.heap.push ob).get? N = some ob := by
        rw [← hN, ← hob]; exact Heap.get?_push_size _ rfl
      have hsz1 : (s.heap.push ob).objs.size = N + 1 := by rw [Heap.size_push, hN]
      have hT : Shared.TypeIs { s with heap := s.heap.push ob } (.ref N) "set" := ⟨_, hS, by rw [← hob]⟩
      have hli := ft.init.lookup
      have hbi := ft.init.bind (.ref N)
      repeat (any_goals (first | assumption | wp_step))
      refine codeAny_mono (codeAny_call_builtin (R := wants (fun r y => r = .none ∧ ∃ h' tk, y = { s with heap := h', toks := tk } ∧ h'.SetOf (PySem.strKind prog w) N (fun y => xs.any (· == y)) (met xs xs.length) ∧ ∀ b o, b < N → s.heap.get? b = some o → h'.get? b = some o) E)
        ft.init.plain PySem.F.entry_set_init (check_set_init_1 hT ?_)) fun r₂ y hr₂ => ?_
      · obtain ⟨⟨oc, od, odt, osl⟩, hol, hc, nl, hd⟩ := hl
        have hc : oc = .type "list" := hc
        have hd : odt = .seq items nl := hd
        subst hc hd
        have hol' : (s.heap.push ob).get? l = some { cls := .type "list", dict := od, data := .seq items nl, slots := osl } := Heap.get?_push_of_some _ hol
        have hsls := PySem.F.sub_list_set
        have hslf := PySem.F.sub_list_frozenset
        have hne : (Value.type "list" == Value.type "dict") = false := by decide
        have hl1 : (s.heap.push ob).IsList l items := ⟨_, hol', rfl, nl, rfl⟩
        have hlN : l < N := by rw [← hN]; exact Heap.lt_size hol
        have hsz : xs.length = items.size := by rw [← StrsAre.len_eq hi, Array.length_toList]
        have hneI : l ≠ (s.heap.push ob).objs.size := by rw [hsz1]; exact Nat.ne_of_lt (Nat.lt_succ_of_lt hlN)
        have hSf : N ∉ [(s.heap.push ob).objs.size, l] := by
          rw [hsz1]
          intro q
          rcases List.mem_cons.mp q with q | q
          · exact Nat.ne_of_lt (Nat.lt_succ_self N) q
          · exact Nat.ne_of_gt hlN (List.mem_singleton.mp q)
        have W0 := (Walks.list (prog := prog) (w := w) (A := A.in1.in1.in1) (by simp [hh]) (s.heap.push ob).objs.size l hneI items).toS
        rw [← hsz] at W0
        subst hob
        unfold Builtin.«set.__init__» noKeywords Builtin.Frozenset.updateFrom
        generalize hPI : pyIter = PI
        wp_walk
        subst hPI
        refine wpAny_pyIter_list hl1 ?_
        refine wpAny_bind (wpAny_runValue ?_)
        refine set_turns xs W0 N hSf room (fun i v hv => SS.strs_at hi i v (by rw [Array.getElem?_toList]; exact hv)) xs.length 0 _ (by omega) (Nat.zero_le _) ⟨⟨_, Heap.get?_push_size _ rfl, rfl, rfl⟩, hl1.push _⟩ ?_ fun y hm hS' => ?_
        · exact PyProof.Rows.SetOf_congr ((PyProof.Rows.setObjOf_fresh (knd := PySem.strKind prog w) led).setOf (Heap.get?_push_of_some _ hS) (by unfold scanBound; omega)) (fun _ => rfl) rfl
        · obtain ⟨h', g', d', tk', os'⟩ := y
          have eg : g' = s.gens := hm.gens
          have ed : d' = s.drawn := hm.drawn
          have eo : os' = s.os := hm.os
          subst eg ed eo
          refine wpAny_pure ?_
          show wpAny _ _ (ret Value.none) _ _ _
          refine wpAny_pure ⟨rfl, h', tk', rfl, hS', fun b o hb e => hm.heap b o (fun q => ?_) (Heap.get?_push_of_some _ (Heap.get?_push_of_some _ e))⟩
          rcases List.mem_cons.mp q with q | q
          · exact Nat.ne_of_lt hb q
          · rw [hsz1] at q
            exact Nat.ne_of_lt (Nat.lt_succ_of_lt hb) (List.mem_singleton.mp q)
      · cases r₂ with
        | error e => exact hr₂
        | ok fl₂ =>
          cases fl₂ with
          | ret r =>
            obtain ⟨rfl, h', tk, rfl, hS', hk'⟩ := hr₂
            repeat (any_goals (first | assumption | wp_step))
            exact h _ _ hS' hk'
          | _ => exact hr₂.elim
    | _ => exact hr.elim
end
/-- len(set(e)), e a list of texts -/
def tLenSetT (K : PySem.W.Frag) (ta : TE) : TE := fun σ H Q => ta σ H fun x H1 => ∃ (l : Addr) (xs : List Str), x = .ref l ∧ SqL K H1 l (xs.map V.str) ∧ xs.length + 1 < scanBound ∧ Q (.int (met xs xs.length : Nat)) H1
theorem pe_lenSetT {X : Cx} {a : Expr} {ta : TE} {p p2 q pos : Pos} (hc : X.calm = true) (hg : Gl X "len") (hm : X.mg "len" = none) (hg2 : Gl X "set") (hm2 : X.mg "set" = none) (ha : PE X a ta) (na : starEach [a] X.env = (false, eval a X.env) :: starEach [] X.env := by rfl) :
    PE X (.Call (.Name "len" p) [.Call (.Name "set" p2) [a] [] q] [] pos) (tLenSetT X.K ta) := by
  refine ⟨fun pins s σ H Q I h => ?_⟩
  refine Call_ (ld_blt I hg hm boot_len (PyProof.Rows.callWith_builtin1 (PyProof.Rows.args_cons ?_ rfl) rfl rfl))
  refine Call_ (ld_blt I hg2 hm2 boot_set (PyProof.Rows.callWith_type1 (PyProof.Rows.args_cons (thn (ha.run pins s σ H _ I h) fun v s1 ⟨x, H1, J, r1, q1⟩ => PyProof.Rows.args_nil ?_) na) na rfl))
  obtain ⟨l, xs, rfl, hq, room, q1⟩ := q1
  cases r1
  obtain ⟨its, r, pl, hz⟩ := J.list hq
  refine call_set_texts (J.ok.hd hc) pl.isList (by simpa using strsAre_of r) room fun h' tk hS hk => PyProof.Rows.args_nil ?_
  obtain ⟨o, es, ep, t, ho, hex, hd, _, _, _, hf, hn⟩ := hS
  have J2 : Inv X pins σ H1 { s1 with heap := h', toks := tk } := J.kept fun b o e => hk b o (Heap.lt_size e) e
  have q2 := met_le xs xs.length
  refine call_len_set ho hex hd hf (by rw [hn]; have q3 : scanBound = 4096 := rfl; omega) ⟨.int (met xs xs.length : Nat), H1, J2.tok _, ⟨_, by rw [hn]⟩, q1⟩
end L2.Sett
set_option maxHeartbeats 4000000
/-! x in o, x not in o, o an instance of a class with an own __contains__ that gives a bool. -/
namespace L2.Own
open PySem PySem.Spec PyProof.Rows
structure InC (K : PySem.W.Frag) (C f : Addr) : Prop where
  at_ : PySem.W.findIn K (.ref C) "__contains__" = some (some (.ref f))
  fn : PySem.W.isFn K (.ref f) = true
section
variable {X : Cx} {k : Nat} {C f : Addr} {fd : FuncData} {ps : List Str} {sp : Sp} {CX : CXT} {E : XK}
theorem contains_own {pins : List (Addr × Obj)} {s : Shared} {σ : L2.St} {H : Hp} {x : V} {a dx : Addr} {fs : List (Str × V)} {v : Value} {Q : Bool → Hp → Prop} {Q' : Bool → Shared → Prop} (c : InC X.K C f) (F : FnOk X.prog X.w X.K X.mg X.base CX k f fd ps sp) (hr : Room k X.A) (hb : Binds X.K fd ps []) (hx : Passes CX X E)
    (I : Inv X pins σ H s) (rx : RelV x v) (ha : H a = some (.ins C dx fs)) (hsp : sp [.ref a, x] H (fun y H' => ∃ b, y = .bl b ∧ Q b H') E) (hQ : ∀ b H' s', Inv X pins σ H' s' → Q b H' → Q' b s') :
    wpAny (model X.prog X.w) X.A (contains (.ref a) v) Q' X.xe s := by
  obtain ⟨mA, J, _⟩ := ins_get I.hok ha
  obtain ⟨od, J, _⟩ := J.look
  have kin := I.kIn
  unfold contains
  refine wpAny_holding ?_
  rw [stdlibNamesSay?_ref]
  refine wpAny_bind (wpAny_bind (J.type.here ((PySem.W.looks_findIn kin c.at_).here ?_)))
  refine wpAny_ite_split (fun z => absurd z Bool.false_ne_true) (fun _ => ?_)
  have fin : wpAny (model X.prog X.w) X.A (call (.ref f) [.ref a, v]) (fun r s' => ∃ b H', r = .bool b ∧ Inv X pins σ H' s' ∧ Q b H') X.xe s := by
    have hl := F.len _ _ _ _ hsp
    have r2 : Vals [V.ref a, x] [Value.ref a, v] := .cons rfl (.cons rx .nil)
    refine wpAny_call (codeAny_mono (F.run X.A X.stack s H ⟨[.ref a, v], []⟩ [.ref a, v] [.ref a, x] _ E hr I.env0 (by
      have := hb s [.ref a, v] I.kIn (by simpa using hl)
      simpa using this) r2 hsp) fun r s' hq => ?_)
    cases r with
    | error e => exact hx pins σ H s e s' I hq
    | ok fl =>
      cases fl with
      | ret u =>
        obtain ⟨y, H', I', ry, b, rfl, q⟩ := I.after hq
        cases ry
        exact ⟨b, H', rfl, I', q⟩
      | next => exact False.elim hq
      | brk => exact False.elim hq
      | cont => exact False.elim hq
  simp only [callSpecialUnlessNone?]
  refine wpAny_bind (wpAny_bind (wpAny_bind (J.type.here ((PySem.W.looks_findIn kin c.at_).here ?_))))
  refine wpAny_holding (wpAny_bind ((PySem.W.bind_fn kin _ (beq_iff_eq.mp c.fn)).here ?_))
  refine wpAny_ite_split (fun z => absurd z Bool.false_ne_true) (fun _ => ?_)
  refine wpAny_bind (wpAny_mono fin (fun r s' hr' => ?_) fun _ _ z => z)
  obtain ⟨b, H', rfl, I', q⟩ := hr'
  exact wpAny_pure (wpAny_truthy_bool (hQ b H' s' I' q))
/-- x in o -/
def rInOwn (C : Addr) (sp : Sp) (E : XK) (neg : Bool) : R2 := fun x y H Q => ∃ a dx fs, y = .ref a ∧ H a = some (.ins C dx fs) ∧ sp [.ref a, x] H (fun z H' => ∃ b : Bool, z = .bl b ∧ Q (.bl (if neg then !b else b)) H') E
theorem op_inOwn (c : InC X.K C f) (F : FnOk X.prog X.w X.K X.mg X.base CX k f fd ps sp) (hr : Room k X.A) (hb : Binds X.K fd ps []) (hx : Passes CX X E) : OpR X (compareOp .In) (rInOwn C sp E false) := by
  intro pins s σ H x y v u Q I rx ry ⟨a, dx, fs, ey, ha, hsp⟩
  subst ey
  cases ry
  show wpAny _ _ (contains (.ref a) v >>= fun b => pure (Value.bool b)) _ _ _
  exact wpAny_bind (contains_own c F hr hb hx I rx ha hsp fun b H' s' I' q => wpAny_pure ⟨.bl b, H', I', rfl, q⟩)
theorem op_notInOwn (c : InC X.K C f) (F : FnOk X.prog X.w X.K X.mg X.base CX k f fd ps sp) (hr : Room k X.A) (hb : Binds X.K fd ps []) (hx : Passes CX X E) : OpR X (compareOp .NotIn) (rInOwn C sp E true) := by
  intro pins s σ H x y v u Q I rx ry ⟨a, dx, fs, ey, ha, hsp⟩
  subst ey
  cases ry
  show wpAny _ _ (contains (.ref a) v >>= fun b => pure (Value.bool (!b))) _ _ _
  exact wpAny_bind (contains_own c F hr hb hx I rx ha hsp fun b H' s' I' q => wpAny_pure ⟨.bl (!b), H', I', rfl, q⟩)
end
end L2.Own
set_option maxHeartbeats 4000000
/-! A dict that is never changed again (frozen); iter(d); walking an instance whose own __iter__ hands out iter(d). -/
namespace L2.Itr
open PySem PySem.Spec PyProof.Rows ItX
section
variable {X : Cx} {pins : List (Addr × Obj)} {σ : L2.St} {H : Hp} {s : Shared}
/-- from here on the dict is only read -/
def tFrz (t : TE) : TE := fun σ H Q => t σ H fun v H1 => ∃ d u, v = .ref d ∧ H1 d = some u ∧ Mut (some u) ∧ ∀ o, Q v (L2.upd H1 d (.frz o u))
theorem pe_frz {e : Expr} {t : TE} (h : PE X e t) : PE X e (tFrz t) := by
  refine ⟨fun pins s σ H Q I hq => thn (h.run pins s σ H _ I hq) fun v s1 ⟨x, H1, J, r, d, u, ex, hd, mu, q⟩ => ?_⟩
  obtain ⟨o, J2⟩ := J.lock hd mu
  exact ⟨x, _, J2, r, q o⟩
/-- the iterator over the keys of the dict at d -/
def ItK (it d : Addr) (n ep : Nat) : HO := .ext fun h => h.IsKeyIter it d 0 n ep
theorem itK_ok {P : Program} {w : World} {h : Heap} {it d : Addr} {n ep : Nat} (z : h.IsKeyIter it d 0 n ep) : ObjOk P w H h it (ItK it d n ep) :=
  ⟨z, let ⟨o, e, _⟩ := z; ⟨o, e⟩, fun _ _ z1 k => z1.at k⟩
/-- iter(d), d frozen -/
def rIterK (n : Nat) : List V → Hp → VK → Prop := fun xs H Q => ∃ (d : Addr) (o : Obj) (kvs : List (Key × V)), xs = [.ref d] ∧ H d = some (.frz o (.dK kvs)) ∧ ∀ it es ep, o.data = .dict es ep → H it = none → n ≤ it → Q (.ref it) (L2.upd H it (ItK it d kvs.length ep))
theorem call_iterK : CallR X (.builtin "iter") (rIterK X.s_0.heap.objs.size) := by
  intro pins s σ H xs us Q I r h
  obtain ⟨d, o, kvs, rfl, hd, q⟩ := h
  obtain ⟨u, rfl, ru⟩ := vals1 r
  cases ru
  obtain ⟨hs, hgd, hx, es, ep, vs, hdt, hsz, kv, hm⟩ := I.frzK hd
  refine Calls.call_function_entry (by decide +kernel) (by decide +kernel) PySem.W.kdk_entry_iter (PySem.W.kdk_args_iter _) ?_
  unfold Builtin.«iter»
  refine wpAny_bind (m := someArgs "iter" 1 2 _) (wpAny_of_eq (a := [Value.ref d]) (by first | rfl | kernel_rfl!) ?_)
  show wpAny _ _ (pyIter (.ref d) >>= _) _ _ _
  refine wpAny_bind (iter_keys hs hgd hx hdt ?_)
  refine wpAny_pure ⟨_, rfl, .ref s.heap.objs.size, _, I.laid (t' := s.toks) (fun b u e => Heap.get?_push_of_some _ e) (Nat.le_refl _) (itK_ok (n := kvs.length) (ep := ep) (d := d) ⟨_, Heap.get?_push_size _ rfl, rfl, ?_⟩), rfl, q _ es ep hdt (I.hok.fresh (Nat.le_refl _)) I.sz⟩
  rw [hsz] <;> rfl
end
/-- one call of a def, its start known -/
theorem Fun.once {P : Program} {w : World} {K : PySem.W.Frag} {mg : Str → Option Value} {base : Heap} {x qual : Str} {st : Stmt} {f : Addr} {fd : FuncData} {N ps : List Str} {k : Nat} (F : Fun K x qual st f fd) (S : FnScope N ps (defScope st))
    {A : Around} {outer : List Env} {s : Shared} {H : Hp} {args : Args} {us : List Value} {vs : List V} {Q : VK} {E : XK} (hr : Room (k + 1) A) (e0 : Env0 P w K mg base A outer s H) (hb : BindsTo s fd args (ps.zip us)) (r : Vals vs us) (hl : vs.length = ps.length)
    (hbody : ∀ cdv, Room k (A.deeper (envOfC qual (defScope st) s.heap.objs.size f cdv)) → ∃ t, PSs (cxOf CX0 P w K mg base N qual (defScope st) f cdv A outer s H E).nox (defBody st) t ∧ t { nx := fun _ H' => Q .non H', rt := Q } (start N vs) H) :
    codeAny (model P w) A (.call (.ref f) args) (CR CX0 outer P w H s Q E) s := by
  obtain ⟨oc, od, kV, doc, pm, an, cdv, ct, osl, rfl, lk, hcd⟩ := F.ex
  obtain ⟨t, ht, hq⟩ := hbody cdv (hr.deeper _)
  have ht := ht.nox
  have kin : K.In s.heap := e0.mod.kin.keeps fun b o e => (e0.bs b o e).1
  refine codeAny_call_function hr.depth (kin _ _ lk) rfl S.co S.gen rfl (PySem.W.codeRec_of kin hcd) (hb _ _ _ _ (wpAny_newFunctionEnv_cells S.kind (fun y hy => ?_) fun env he s1 z => ?_))
  · rcases S.par y.1 (List.of_mem_zip hy).1 with q | q
    · exact .inl q
    · exact .inr ⟨q, PySem.W.cellsFrom_some _ _ _ (.inl q)⟩
  · subst he
    have lim : s.heap.NoLimit := e0.mod.nolimit.keeps fun b o e => (e0.bs b o e).1
    refine ⟨lim.keeps z.toInCall.keep, codeAny_func (wpAny_mono (ht.run [] s1 (start N vs) H _ (inv_start S hr.hd e0 hl r z) hq) (fun fl s' hs => ?_) fun e s' hs => hs)⟩
    cases fl with
    | ret u => exact let ⟨v, _, H', J, rv, q⟩ := hs; ⟨v, H', J.os, J.bare, J.base, J.hok, rv, q⟩
    | next => exact let ⟨_, H', J, q⟩ := hs; ⟨.non, H', J.os, J.bare, J.base, J.hok, rfl, q⟩
    | brk => exact let ⟨_, _, _, q⟩ := hs; False.elim q
    | cont => exact let ⟨_, _, _, q⟩ := hs; False.elim q
/-- what an own __iter__ that hands out the keys of its field f gives -/
structure KeysOk (P : Program) (w : World) (K : PySem.W.Frag) (mg : Str → Option Value) (base : Heap) (k : Nat) (fi : Addr) (fd : FuncData) (C : Addr) (f : Str) : Prop where
  run : ∀ (A : Around) (outer : List Env) (s : Shared) (H : Hp) (a dx d : Addr) (fs : List (Str × V)) (o : Obj) (kvs : List (Key × V)), Room k A → Env0 P w K mg base A outer s H → BindsTo s fd ⟨[.ref a], []⟩ [("self", .ref a)] →
    H a = some (.ins C dx fs) → fs.lookup f = some (.ref d) → H d = some (.frz o (.dK kvs)) →
    codeAny (model P w) A (.call (.ref fi) ⟨[.ref a], []⟩) (CR CX0 outer P w H s (fun v H' => ∃ it es ep, v = .ref it ∧ o.data = .dict es ep ∧ s.heap.objs.size ≤ it ∧ H it = none ∧ H' = L2.upd H it (ItK it d kvs.length ep)) fun _ _ _ => False) s
theorem keys_ok {P : Program} {w : World} {K : PySem.W.Frag} {mg : Str → Option Value} {base : Heap} {qual f : Str} {st : Stmt} {fi C : Addr} {fd : FuncData} {N : List Str} {k : Nat} (F : Fun K "__iter__" qual st fi fd) (S : FnScope N ["self"] (defScope st))
    (hb : ∀ (cdv : Value) (A : Around) (outer : List Env) (s : Shared) (H : Hp) (E : XK), Room k (A.deeper (envOfC qual (defScope st) s.heap.objs.size fi cdv)) →
      ∃ t, PSs (cxOf CX0 P w K mg base N qual (defScope st) fi cdv A outer s H E).nox (defBody st) t ∧ ∀ (a dx d : Addr) (fs : List (Str × V)) (o : Obj) (kvs : List (Key × V)) (Q : VK), H a = some (.ins C dx fs) → fs.lookup f = some (.ref d) → H d = some (.frz o (.dK kvs)) →
        (∀ it es ep, o.data = .dict es ep → H it = none → s.heap.objs.size ≤ it → Q (.ref it) (L2.upd H it (ItK it d kvs.length ep))) → t { nx := fun _ H' => Q .non H', rt := Q } (start N [.ref a]) H) :
    KeysOk P w K mg base (k + 1) fi fd C f := by
  refine ⟨fun A outer s H a dx d fs o kvs hr e0 hbn ha hf hd => ?_⟩
  refine Fun.once F S (us := [.ref a]) (vs := [.ref a]) hr e0 hbn (.cons rfl .nil) rfl fun cdv hr' => ?_
  obtain ⟨t, ht, q⟩ := hb cdv A outer s H (fun _ _ _ => False) hr'
  exact ⟨t, ht, q a dx d fs o kvs (fun v H' => ∃ it es ep, v = .ref it ∧ o.data = .dict es ep ∧ s.heap.objs.size ≤ it ∧ H it = none ∧ H' = L2.upd H it (ItK it d kvs.length ep)) ha hf hd fun it es ep e1 e2 e3 => ⟨it, es, ep, rfl, e1, e3, e2, rfl⟩⟩
/-- a class with such an __iter__ -/
structure ItOwn (K : PySem.W.Frag) (C fi : Addr) : Prop where
  at_ : PySem.W.findIn K (.ref C) "__iter__" = some (some (.ref fi))
  fn : PySem.W.isFn K (.ref fi) = true
/-- walking it: the keys of its field -/
def iOwnK (C : Addr) (f : Str) (te : TE) : TI := fun σ H R => te σ H fun v H1 => ∃ a dx d fs o kvs, v = .ref a ∧ H1 a = some (.ins C dx fs) ∧ fs.lookup f = some (.ref d) ∧ H1 d = some (.frz o (.dK kvs)) ∧ R (Itk d o kvs) H1
theorem pi_ownK {X : Cx} {tg e : Expr} {te : TE} {k : Nat} {fi C : Addr} {fd : FuncData} {f : Str} (c : ItOwn X.K C fi) (hK : KeysOk X.prog X.w X.K X.mg X.base k fi fd C f) (hr : Room k X.A) (hb : Binds X.K fd ["self"] []) (he : PE X e te) : PI X tg e (iOwnK C f te) := by
  refine ⟨fun pins s σ H R I h => thn (he.run pins s σ H _ I h) fun u s1 ⟨x, H1, J, rx, a, dx, d, fs, o, kvs, ex, ha, hf, hd, q⟩ => ?_⟩
  subst ex
  cases rx
  obtain ⟨mA, O, _⟩ := ins_get J.hok ha
  obtain ⟨od, O, _⟩ := O.look
  obtain ⟨m0, hF⟩ := J.fr
  refine PySem.W.owit_iter hF J.ok.mod.kin O c.at_ c.fn (wpAny_call (codeAny_mono (hK.run X.A X.stack s1 H1 a dx d fs o kvs hr J.env0 (by
    have z := hb s1 [.ref a] J.kIn rfl
    simpa using z) ha hf hd) fun r s2 hq => ?_))
  cases r with
  | error e => exact False.elim hq
  | ok fl =>
    cases fl with
    | ret u =>
      obtain ⟨v, H2, J2, rv, it, es, ep, ev, hdt, hle, hn, eH⟩ := J.after hq
      subst ev
      cases rv
      subst eH
      have hit : (L2.upd H1 it (ItK it d kvs.length ep)) it = some (ItK it d kvs.length ep) := upd_same
      have young : X.s_0.heap.objs.size ≤ it := Nat.le_trans J.sz hle
      have st : s2.heap.IsKeyIter it d 0 kvs.length ep := (J2.hok it _ hit).1
      have J3 := inv_drop J2 hit
      have fp := inv_fp J2 hit young
      rw [dropH_upd hn] at J3 fp
      obtain ⟨oi, hoi, hoc, _⟩ := id st
      show PySem.W.OwitIt (model X.prog X.w) X.A (PIE X pins σ tg R) X.xe (.ref it) s2
      unfold PySem.W.OwitIt
      have hT : s2.TypeIs (.ref it) "dict_keyiterator" := ⟨oi, hoi, hoc⟩
      refine wpAny_specialOf hT PySem.F.slot_dict_keyiterator_next.lookup ?_
      refine ⟨it, [it], _, _, H1, rfl, J3, turn_keys it hdt, st, fun b hb => ?_, q⟩
      rw [List.mem_singleton.mp hb]
      exact fp
    | next => exact False.elim hq
    | brk => exact False.elim hq
    | cont => exact False.elim hq
end L2.Itr
set_option maxHeartbeats 4000000
/-! list(d), tuple(d): the keys in their order. -/
namespace PySem.W
open PySem PySem.Spec
section
variable {prog : Program} {w : World} {A : Around} {E : Value → Shared → Prop} {s : Shared} {T : String} {r d : Addr} {n : Nat} {P : Nat → Value → Prop} {OK : Heap → Prop}
/-- what such a thing gives when it is collected -/
theorem src_collect {Q : List Value → Shared → Prop} (K : KdlSrc prog w T r d n P OK) (hh : A.handled = none) (hok : OK s.heap) (hn : n ≤ sizeLine)
    (h : ∀ h' tk (acc : Array Value), (∀ b o, s.heap.get? b = some o → h'.get? b = some o) → ItemsOf P acc n → Q acc.toList { s with heap := h', toks := tk }) :
    wpAny (model prog w) A (collect (.ref r)) Q E s := by
  generalize hob : ({ cls := .type "list", data := .seq ([] : List Value).toArray } : Obj) = ob
  have low := K.there _ hok
  have kp : ∀ b o, s.heap.get? b = some o → (s.heap.push ob).get? b = some o := fun b o e => Heap.get?_push_of_some _ e
  have hS : (s.heap.push ob).get? s.heap.objs.size = some { cls := .type "list", data := .seq #[] } := by rw [← hob]; exact Heap.get?_push_size _ rfl
  unfold collect
  refine wpAny_bind (wpAny_runValue (codeAny_builtin PySem.F.entry_proto_collect ?_))
  rw [Around.under_plainId PySem.F.plain_proto_collect _]
  show wpAny _ A.in1 (newList [] >>= fun l => again (.builtin "list.__iadd__" ⟨[l, .ref r], []⟩)) _ _ s
  refine wpAny_bind (wpAny_newObj_type (wpAny_pure ⟨plainId_quiet PySem.F.plain_list_iadd _, codeAny_builtin PySem.F.entry_list_iadd ?_⟩))
  rw [Around.under_plainId PySem.F.plain_list_iadd _]
  rw [hob]
  show wpAny _ A.in1 (Builtin.List.listExtendWith (.ref s.heap.objs.size) (.ref r) (.ref s.heap.objs.size)) _ _ _
  have fin : ∀ h' tk acc c, (∀ b o, s.heap.get? b = some o → h'.get? b = some o) → h'.get? s.heap.objs.size = some { cls := .type "list", dict := none, data := .seq acc c, slots := #[] } → ItemsOf P acc n →
      wpAny (model prog w) A (match Value.ref s.heap.objs.size with
        | Value.ref a => do
          match (← load a).data with
            | Data.seq xs _ => pure xs.toList
            | _ => unsupported "internal:collect"
        | _ => unsupported "internal:collect") Q E { s with heap := h', toks := tk } := by
    intro h' tk acc c hk hl hi
    show wpAny _ A (load s.heap.objs.size >>= _) _ _ _
    exact wpAny_bind (wpAny_load hl (wpAny_pure (h h' tk acc hk hi)))
  have key := kdl_extend (A := A) (s := { s with heap := s.heap.push ob }) (R := fun q y => ∃ h' tk acc c, q = .ok (.ret (.ref s.heap.objs.size)) ∧ y = { s with heap := h', toks := tk } ∧ (∀ b o, s.heap.get? b = some o → h'.get? b = some o) ∧
      h'.get? s.heap.objs.size = some { cls := .type "list", dict := none, data := .seq acc c, slots := #[] } ∧ ItemsOf P acc n) K hh (K.keep _ _ hok fun b _ o e => kp b o e) s.heap.objs.size (Nat.ne_of_gt low.1) (Nat.ne_of_gt low.2) (.ref s.heap.objs.size) 0 hS
    (fun h' tk acc c hk hl hi => ⟨h', tk, acc, c, rfl, rfl, fun b o e => hk b o (Nat.ne_of_lt (Heap.lt_size e)) (kp b o e), hl, hi⟩) hn
  refine wpAny_mono key (fun f y z => ?_) fun e y z => ?_
  · cases f with
    | done f =>
      obtain ⟨h', tk, acc, c, e, rfl, hk, hl, hi⟩ := z
      cases e
      exact fin h' tk acc c hk hl hi
    | again c1 =>
      refine ⟨z.1, codeAny_mono z.2 fun q y2 z2 => ?_⟩
      obtain ⟨h', tk, acc, c, rfl, rfl, hk, hl, hi⟩ := z2
      exact fin h' tk acc c hk hl hi
  · obtain ⟨_, _, _, _, e2, _⟩ := z
    cases e2
/-- tuple(r) -/
theorem src_tuple {Q : Value → Shared → Prop} (K : KdlSrc prog w T r d n P OK) (hT0 : (Value.type T == Value.type "tuple") = false) (hh : A.handled = none) (hok : OK s.heap) (hn : n ≤ sizeLine)
    (h : ∀ (h' : Heap) tk (acc : Array Value), (∀ b o, s.heap.get? b = some o → h'.get? b = some o) → ItemsOf P acc n → Q (.ref h'.objs.size) { s with heap := h'.push { cls := .type "tuple", data := .seq acc }, toks := tk }) :
    wpAny (model prog w) A (call (.type "tuple") [.ref r]) Q E s := by
  have lookI := init_tuple_lookup
  have ft := PySem.F.called_tuple
  have hT := K.type s hok
  refine callType_codes (Q₁ := fun obj y => ∃ (h' : Heap) (tk : Nat) (acc : Array Value), obj = .ref h'.objs.size ∧ y = { s with heap := h'.push { cls := .type "tuple", data := .seq acc }, toks := tk } ∧ (∀ b o, s.heap.get? b = some o → h'.get? b = some o) ∧ ItemsOf P acc n)
    ft (PySem.F.typeCall_tuple_1 _) PySem.F.entry_object_init (codeAny_call_builtin ft.plain PySem.F.entry_tuple_new (wpAny_of_eq (PySem.F.newCall_tuple_1 _) ?_)) fun obj y hy => ?_
  · have hsub := sub_tuple_self
    have hmh := madeHere_tuple
    have co := fun (B : Around) (hB : B.handled = none) (Q2 : List Value → Shared → Prop) (E2 : Value → Shared → Prop) => src_collect (A := B) (Q := Q2) (E := E2) (s := s) K hB hok hn
    obtain ⟨hp, g, d', tk, os⟩ := s
    unfold Builtin.«tuple.__new__»
    generalize hC : collect = Cl
    wp_walk using wpAny_typeOf hT
    subst hC
    refine co A.in1.in1 hh _ _ fun h' tk' acc hk hi => ?_
    show wpAny _ _ (Builtin.Tuple.tupleExact acc.toList.toArray >>= fun v => ret v) _ _ _
    have ea : acc.toList.toArray = acc := by simp
    rw [ea]
    unfold Builtin.Tuple.tupleExact
    refine wpAny_bind (wpAny_newObj_type ?_ (by show acc.size ≤ sizeLine; rw [hi.1]; exact hn))
    exact wpAny_pure ⟨h', tk', acc, rfl, rfl, hk, hi⟩
  · obtain ⟨h', tk, acc, rfl, rfl, hk, hi⟩ := hy
    have hT2 : Shared.TypeIs { s with heap := h'.push { cls := .type "tuple", data := .seq acc }, toks := tk } (.ref h'.objs.size) "tuple" := ⟨_, Heap.get?_push_size _ rfl, rfl⟩
    refine ⟨hT2, PySem.F.args_object_init_2 _ _, object_init_meets ft.init.lookup ft.made (by decide) prog w A.in1 _ _ ⟨hT2, rfl, h h' tk acc hk hi⟩⟩
end
end PySem.W
namespace L2.Dls
open PySem PySem.Spec PyProof.Rows L2.Ev
theorem vals_at : ∀ {xs : List V} {us : List Value}, us.length = xs.length → (∀ (j : Nat) (u : Value), us[j]? = some u → ∃ x, xs[j]? = some x ∧ RelV x u) → Vals xs us
  | [], [], _, _ => .nil
  | x :: xs, u :: us, hl, h => by
    obtain ⟨y, e, r⟩ := h 0 u rfl
    have e : x = y := by simpa using e
    subst e
    exact .cons r (vals_at (by simpa using hl) fun j w hw => by simpa using h (j + 1) w (by simpa using hw))
/-- the dict at d, as it may be read -/
def DRd (H : Hp) (d : Addr) (kvs : List (Key × V)) : Prop := H d = some (.dK kvs) ∨ ∃ o, H d = some (.frz o (.dK kvs))
section
variable {X : Cx} {pins : List (Addr × Obj)} {σ : L2.St} {H : Hp} {s : Shared}
theorem drd_at {d : Addr} {kvs : List (Key × V)} (I : Inv X pins σ H s) (h : DRd H d kvs) : (d == sysModules) = false ∧ kvs.length ≤ sizeLine ∧ ∃ (vs : List (Key × Value)) (ep : Nat), KV kvs vs ∧ s.heap.DictAt (mixKind X.prog X.w) d vs ep := by
  have core : ObjOk X.prog X.w H s.heap d (.dK kvs) := by
    rcases h with h | ⟨o, h⟩
    · exact I.hok d _ h
    · exact (I.hok d _ h).2
  obtain ⟨z, hs, vs, kv, o, es, ep, ho, hx, hdt, r⟩ := core
  exact ⟨hs, z, vs, ep, kv, o, es, ho, hx, hdt, r⟩
theorem keys_vals {kvs : List (Key × V)} {vs : List (Key × Value)} {acc : Array Value} (kv : KV kvs vs) (hi : ItemsOf (fun i v => ∃ k x, vs[i]? = some (k, x) ∧ (mixKind X.prog X.w).is k v = true) acc vs.length) : Vals (kvs.map fun p => kV p.1) acc.toList := by
  have hl : kvs.length = vs.length := Paired.length kv
  refine vals_at (by rw [Array.length_toList, hi.1, List.length_map, hl]) fun j u hu => ?_
  obtain ⟨k, x, e, hk⟩ := hi.2 j u (by rw [← Array.getElem?_toList]; exact hu)
  have hj : j < vs.length := (List.getElem?_eq_some_iff.mp e).1
  obtain ⟨p, hp⟩ : ∃ p, kvs[j]? = some p := ⟨kvs[j]'(by omega), List.getElem?_eq_getElem (by omega)⟩
  obtain ⟨u2, hu2, ru2⟩ := kv_get kv (show kvs[j]? = some (p.1, p.2) from hp)
  rw [hu2] at e
  cases e
  exact ⟨kV p.1, by rw [List.getElem?_map, hp]; rfl, relV_key hk⟩
/-- list(d) -/
def rListD : List V → Hp → VK → Prop := fun xs H Q => ∃ d kvs, xs = [.ref d] ∧ DRd H d kvs ∧ Lays H (.lst (kvs.map fun p => kV p.1)) Q
theorem list_ofD (hc : X.calm = true) : CallR X (.type "list") rListD := by
  intro pins s σ H xs us Q I r h
  obtain ⟨d, kvs, rfl, hd, q⟩ := h
  obtain ⟨u, rfl, ru⟩ := vals1 r
  cases ru
  obtain ⟨hs, hz, vs, ep, kv, hm⟩ := drd_at I hd
  have hl : kvs.length = vs.length := Paired.length kv
  refine PySem.W.kdl_call (PySem.W.kdl_dict (knd := mixKind X.prog X.w) hs) (I.ok.hd hc) hm (by omega) fun h' tk acc c hk hS hi => ?_
  have new : ObjOk X.prog X.w (L2.upd H s.heap.objs.size (.lst (kvs.map fun p => kV p.1))) h' s.heap.objs.size (.lst (kvs.map fun p => kV p.1)) := ⟨by rw [List.length_map]; exact hz, acc.toList, c, keys_vals (X := X) kv hi, by rw [Array.toArray_toList]; exact hS⟩
  exact ⟨_, _, I.laid (t' := tk) hk (Nat.le_refl _) new, (show RelV (.ref s.heap.objs.size) _ from rfl), q.at _ (I.hok.fresh (Nat.le_refl _))⟩
/-- tuple(d) -/
def rTupD : List V → Hp → VK → Prop := fun xs H Q => ∃ d kvs, xs = [.ref d] ∧ DRd H d kvs ∧ Lays H (.tup (kvs.map fun p => kV p.1)) Q
theorem tup_ofD (hc : X.calm = true) : CallR X (.type "tuple") rTupD := by
  intro pins s σ H xs us Q I r h
  obtain ⟨d, kvs, rfl, hd, q⟩ := h
  obtain ⟨u, rfl, ru⟩ := vals1 r
  cases ru
  obtain ⟨hs, hz, vs, ep, kv, hm⟩ := drd_at I hd
  have hl : kvs.length = vs.length := Paired.length kv
  refine PySem.W.src_tuple (PySem.W.kdl_dict (knd := mixKind X.prog X.w) hs) (by decide) (I.ok.hd hc) hm (by omega) fun h' tk acc hk hi => ?_
  have J : Inv X pins σ H { s with heap := h', toks := tk } := I.kept (t' := tk) hk
  have J2 : Inv X pins σ (L2.upd H h'.objs.size (.tup (kvs.map fun p => kV p.1))) { s with heap := h'.push { cls := .type "tuple", data := .seq acc }, toks := tk } :=
    J.laid (t' := tk) (fun b o e => Heap.get?_push_of_some _ e) (Nat.le_refl _) (show ObjOk X.prog X.w _ _ _ (.tup (kvs.map fun p => kV p.1)) from ⟨by rw [List.length_map]; exact hz, acc.toList, keys_vals (X := X) kv hi, by rw [Array.toArray_toList]; exact IsTup.new _ _⟩)
  exact ⟨.ref h'.objs.size, _, J2, rfl, q.at _ (J.hok.fresh (Nat.le_refl _))⟩
end
end L2.Dls
set_option maxHeartbeats 4000000
/-! Defs whose code objects are known; the tables of code objects at the end of a law row. -/
namespace L2.Gq
open PySem PySem.Spec PyProof.Rows
section
variable {P : Program} {w : World} {K : PySem.W.Frag} {mg : Str → Option Value} {base : Heap}
/-- a def by its body, its code object at c -/
theorem Fun.okC {x qual : Str} {st : Stmt} {f c : Addr} {fd : FuncData} {N ps : List Str} {k : Nat} {sp : Sp} (F : Fun K x qual st f fd) (hc : fd.code = .ref c) (S : FnScope N ps (defScope st)) (len : ∀ vs H Q E, sp vs H Q E → vs.length = ps.length)
    (hbody : ∀ (A : Around) (outer : List Env) (s : Shared) (H : Hp) (vs : List V) (Q : VK) (E : XK), Room k (A.deeper (envOfC qual (defScope st) s.heap.objs.size f (.ref c))) → sp vs H Q E →
      ∃ t, PSs (cxOf CX0 P w K mg base N qual (defScope st) f (.ref c) A outer s H E).nox (defBody st) t ∧ t { nx := fun _ H' => Q .non H', rt := Q } (start N vs) H) : FnOk P w K mg base CX0 (k + 1) f fd ps sp := by
  obtain ⟨oc, od, kV, doc, pm, an, cdv, ct, osl, rfl, lk, hcd⟩ := F.ex
  obtain rfl : cdv = .ref c := hc
  refine fn_of lk hcd S len fun A outer s H vs Q E hr hsp => ?_
  obtain ⟨t, h, q⟩ := hbody A outer s H vs Q E hr hsp
  exact ⟨t, h.nox, q⟩
theorem Fun.okXC {x qual : Str} {st : Stmt} {f c : Addr} {fd : FuncData} {N ps : List Str} {k : Nat} {sp : Sp} (F : Fun K x qual st f fd) (hc : fd.code = .ref c) (S : FnScope N ps (defScope st)) (len : ∀ vs H Q E, sp vs H Q E → vs.length = ps.length)
    (hbody : ∀ (A : Around) (outer : List Env) (s : Shared) (H : Hp) (vs : List V) (Q : VK) (E : XK), Room k (A.deeper (envOfC qual (defScope st) s.heap.objs.size f (.ref c))) → sp vs H Q E →
      ∃ t, PSs (cxOf (L2.CX P w) P w K mg base N qual (defScope st) f (.ref c) A outer s H E) (defBody st) t ∧ t { nx := fun _ H' => Q .non H', rt := Q } (start N vs) H) : FnOk P w K mg base (L2.CX P w) (k + 1) f fd ps sp := by
  obtain ⟨oc, od, kV, doc, pm, an, cdv, ct, osl, rfl, lk, hcd⟩ := F.ex
  obtain rfl : cdv = .ref c := hc
  exact fn_of lk hcd S len fun A outer s H vs Q E hr hsp => hbody A outer s H vs Q E hr hsp
/-- the tables told of as things that may grow unseen -/
def tabH (L : List Addr) (H : Hp) : Hp := fun b => if b ∈ L then some (TabX b) else H b
/-- .. and told of as they stand -/
def untabH (L : List Addr) (h : Heap) (H : Hp) : Hp := fun b => if b ∈ L then (match (h.get? b).map (fun o : Obj => o.data) with | some (Data.fields ps) => some (HO.tbl ps) | _ => none) else H b
theorem tabH_in {L : List Addr} {H : Hp} {b : Addr} (h : b ∈ L) : tabH L H b = some (TabX b) := if_pos h
theorem tabH_out {L : List Addr} {H : Hp} {b : Addr} (h : b ∉ L) : tabH L H b = H b := if_neg h
theorem fn_tabs {f : Addr} {fd : FuncData} {ps : List Str} {k : Nat} {sp : Sp} (L : List Addr) (F : FnOk P w K mg base CX0 k f fd ps sp) :
    FnOk P w K mg base CX0 k f fd ps (fun vs H Q E => (∀ b ∈ L, H b = some (.tbl #[])) ∧ sp vs (tabH L H) (fun v H' => (∀ b ∈ L, H' b = some (TabX b)) ∧ ∀ H2, Q v H2) E) := by
  refine ⟨fun vs H Q E h => F.len _ _ _ _ h.2, fun A outer s H args us vs Q E hr e0 hb r ⟨hL, hsp⟩ => ?_⟩
  have non : ∀ b, H b = none → b ∉ L := fun b e z => by
    rw [hL b z] at e; cases e
  have oth : ∀ b u, H b = some u → (∀ ps, u ≠ .tbl ps) → b ∉ L := fun b u e n z => by
    rw [hL b z] at e
    exact n _ (Option.some.inj e).symm
  have hok : HOk P w (tabH L H) s.heap := fun b u e => by
    by_cases hb : b ∈ L
    · rw [tabH_in hb] at e
      cases e
      exact tabX_ok (ps := #[]) (e0.hok b _ (hL b hb)) (by trivial)
    · rw [tabH_out hb] at e
      exact (e0.hok b u e).stay (fun _ _ _ z => z) (fun c q => by rw [tabH_out (oth c _ q fun _ z => nomatch z)]; exact q) fun c xs q => by rw [tabH_out (oth c _ q fun _ z => nomatch z)]; exact q
  have e1 : Env0 P w K mg base A outer s (tabH L H) := ⟨e0.frames, e0.mod, fun b o e => ⟨(e0.bs b o e).1, by rw [tabH_out (non b (e0.bs b o e).2)]; exact (e0.bs b o e).2⟩, e0.bsz, e0.funs, fun b hb => by rw [tabH_out (non b (e0.frf b hb))]; exact e0.frf b hb, hok, e0.bare⟩
  refine codeAny_mono (F.run A outer s (tabH L H) args us vs _ E hr e1 hb r hsp) fun q s' hq => ?_
  cases q with
  | error e => exact False.elim hq
  | ok fl =>
    cases fl with
    | next => exact False.elim hq
    | brk => exact False.elim hq
    | cont => exact False.elim hq
    | ret u =>
      obtain ⟨v, H', os, bare, un, hok', rv, hT, q⟩ := hq
      have tabs : ∀ b ∈ L, ∃ qs : Array Value, s'.heap.get? b = some { cls := .none, data := .fields qs } := fun b hb => by
        obtain ⟨⟨qs, e, _⟩, _⟩ := (show ObjOk P w H' s'.heap b (TabX b) from hok' b _ (hT b hb))
        exact ⟨qs, e⟩
      have inn : ∀ b ∈ L, ∃ qs, untabH L s'.heap H' b = some (.tbl qs) ∧ s'.heap.get? b = some { cls := .none, data := .fields qs } := fun b hb => by
        obtain ⟨qs, e⟩ := tabs b hb
        refine ⟨qs, ?_, e⟩
        unfold untabH
        rw [if_pos hb, e]; rfl
      have out : ∀ b, b ∉ L → untabH L s'.heap H' b = H' b := fun b hb => if_neg hb
      have oth' : ∀ b u, H' b = some u → (∀ φ, u ≠ .ext φ) → b ∉ L := fun b u e n z => by
        rw [hT b z] at e
        exact n _ (Option.some.inj e).symm
      refine ⟨v, untabH L s'.heap H', os, bare, ⟨fun b o e n hf hx => ?_, fun b o e n hf hx => ?_, fun b o e n hx => ?_, un.there, fun b xs e => ?_, fun b o u e => ?_, fun b ps e => ?_⟩, fun b u e => ?_, rv, q _⟩
      · exact un.keep b o e (by rw [tabH_out (non b n)]; exact n) hf hx
      · exact un.slot b o e (by rw [tabH_out (non b n)]; exact n) hf hx
      · rw [out b (non b n)]
        exact un.free b o e (by rw [tabH_out (non b n)]; exact n) hx
      · have nb := oth b _ e fun _ z => nomatch z
        rw [out b nb]
        exact un.tups b xs (by rw [tabH_out nb]; exact e)
      · have nb := oth b _ e fun _ z => nomatch z
        rw [out b nb]
        exact un.frzs b o u (by rw [tabH_out nb]; exact e)
      · by_cases hb : b ∈ L
        · rw [hL b hb] at e
          cases e
          obtain ⟨qs, e1, _⟩ := inn b hb
          exact ⟨qs, by rw [e1]; simp⟩
        · rw [out b hb]
          exact un.tbls b ps (by rw [tabH_out hb]; exact e)
      · by_cases hb : b ∈ L
        · obtain ⟨qs, e1, e2⟩ := inn b hb
          rw [e1] at e
          cases e
          exact e2
        · rw [out b hb] at e
          exact (hok' b u e).stay (fun _ _ _ z => z) (fun c z => by rw [out c (oth' c _ z fun _ y => nomatch y)]; exact z) fun c xs z => by rw [out c (oth' c _ z fun _ y => nomatch y)]; exact z
end
theorem tabIn_of {K : PySem.W.Frag} {x : Str} {f c P : Addr} {a a2 : Value} {b b2 : Option Addr} {fd : FuncData} {sl sl2 : Array (Option Value)} {vs : Array Value} (h1 : PySem.W.nsIn K mainGlobals x = some (some (.ref f))) (h2 : K.lookup f = some ⟨a, b, .func fd, sl⟩)
    (h3 : fd.code = .ref c) (h4 : K.lookup c = some ⟨a2, b2, .fields vs, sl2⟩) (h5 : vs[11]? = some (.ref P)) : PySem.W.tabIn K x = some (c, P) := by
  unfold PySem.W.tabIn
  rw [h1]
  show (match K.lookup f with | some ⟨_, _, .func fd, _⟩ => _ | _ => none) = _
  rw [h2]
  show (match fd.code with | .ref c => _ | _ => none) = _
  rw [h3]
  show (match K.lookup c with | some ⟨_, _, .fields vs, _⟩ => _ | _ => none) = _
  rw [h4]
  show (match (vs[11]? : Option Value) with | some (.ref P) => some (c, P) | _ => none) = _
  rw [h5]
/-- the end of a law row, the top as it stands handed on -/
theorem walk_tabs {l : PySem.W.OpenLaw} {n k : Nat} {q : Program} {loose : List Str} {XP : (Str → Option Value) → Heap → Prop} {YP : World → Heap → Prop} {d : DefRec} {K : Params → PySem.W.Frag} {x : Str} (hn : l.most = some n) (hn2 : n ≤ sizeLine) (hdf : d.params.defaults = []) (hr : Room k callerA) (hY : ∀ (w : World) (h : Heap), YP w h → (K w.params).In h)
    (F : ∀ (w : World) (s₀ : Shared) (mg mb : Str → Option Value) (fa : Addr) (h : Heap), PySem.W.Ground q loose [] XP w s₀ mg mb h → (K w.params).In h → mg d.name = some (.ref fa) → LamX.LawAtS l w (K w.params) CX0 k n x mg fa h) :
    PySem.W.WalkO q loose XP YP l.row.toRowW d [] (fun f vs => PySem.call f vs) := by
  refine Att.attach_callB hn hdf fun w s₀ s₁ mg mb fa o pm cd doc a vs ns G Y ho hd hcd hmg hobj hints hlen hbits hg => ?_
  obtain ⟨fd, cs, sp, hT, nT, C, hb, hsp, hF⟩ := F w s₀ mg mb fa _ G (hY w _ Y) hmg
  exact LamX.law_callTs (hY w _ Y) G.T.g G.T.b G.T.builtins G.T.nolimit hg hT nT C G.T.bmain hobj hints (Nat.le_trans hlen hn2) hr hF hb (fun H hH hS => hsp H a ns hlen hbits hH hS) fun H e s' z => z
/-- a question without tests: f by the turn, Pv what holds by the turn -/
theorem q_turns {J : It} {gt : TG} {te : TE} {vs : List Nat} {σ : L2.St} {stop : Bool} {Qb : Bool → Hp → Prop} {H1 : Hp} {n : Nat} (f : Nat → Bool) (Pv : Nat → Hp → Prop) (h0 : Pv 0 H1) (hst : ∀ H, Pv n H → J.stop n H) (hgo : ∀ i H, i < n → Pv i H → J.go i H)
    (hstep : ∀ i x H H' (Qc : VK), i < n → Pv i H → J.yld i H x H' → (∀ H4, Pv (i + 1) H4 → Qc (.bl (f i)) H4) → gt x (wipe σ vs) H' fun σ2 H2 => wipe σ2 vs = wipe σ vs ∧ te σ2 H2 Qc)
    (hend : ∀ H, Pv n H → (∀ j, j < n → f j = !stop) → Qb (!stop) H) (hstop : ∀ i H, i < n → Pv (i + 1) H → f i = stop → (∀ j, j < i → f j = !stop) → Qb stop H) :
    ∃ W : Nat → Nat → Hp → Prop, (∃ m, W 0 m H1) ∧ QTurn J gt tYes te vs σ stop Qb W := by
  refine ⟨fun i m H => m = n - i ∧ i ≤ n ∧ Pv i H ∧ ∀ j, j < i → f j = !stop, ⟨n, rfl, Nat.zero_le _, h0, fun j hj => absurd hj (Nat.not_lt_zero _)⟩, ?_⟩
  rintro i m H ⟨rfl, hi, hp, hf⟩
  by_cases hlt : i < n
  · refine .inr ⟨hgo i H hlt hp, fun H' => Pv (i + 1) H' ∧ f i = !stop, fun H' ⟨p, e⟩ => ⟨n - (i + 1), by omega, rfl, hlt, p, fun j hj => ?_⟩, fun x H' y => ?_⟩
    · by_cases hji : j = i
      · rw [hji]; exact e
      · exact hf j (by omega)
    · refine hstep i x H H' _ hlt hp y fun H4 p4 => ⟨f i, rfl, fun e => hstop i H4 hlt p4 e hf, fun e => ⟨p4, ?_⟩⟩
      cases hfi : f i <;> cases stop <;> simp_all
  · obtain rfl : i = n := by omega
    exact .inl ⟨hst H hp, hend H hp hf⟩
theorem all_answer {n : Nat} {f : Nat → Bool} (h : ∀ j, j < n → f j = true) : (List.range n).all f = true := by
  rw [List.all_eq_true]; exact fun j hj => h j (List.mem_range.mp hj)
theorem all_not {n i : Nat} {f : Nat → Bool} (hi : i < n) (h : f i = false) : (List.range n).all f = false := by
  rw [List.all_eq_false]; exact ⟨i, List.mem_range.mpr hi, by simp [h]⟩
theorem any_answer {n i : Nat} {f : Nat → Bool} (hi : i < n) (h : f i = true) : (List.range n).any f = true := by
  rw [List.any_eq_true]; exact ⟨i, List.mem_range.mpr hi, h⟩
theorem any_not {n : Nat} {f : Nat → Bool} (h : ∀ j, j < n → f j = false) : (List.range n).any f = false := by
  rw [List.any_eq_false]; exact fun j hj => by simp [h j (List.mem_range.mp hj)]
/-- a name of the module that is bound to a number, to a text -/
theorem pe_globI {X : Cx} {x : Str} {pos : Pos} {i : Int} (hg : Gl X x) (h : ∃ t, X.mg x = some (Value.int i t)) (hd : (x == ("__debug__" : Str)) = false := by decide) : PE X (.Name x pos) (tC (.int i)) :=
  ⟨fun pins s σ H Q I q => let ⟨t, e⟩ := h; ld_glob I hg e ⟨.int i, H, I, ⟨t, rfl⟩, q⟩ hd⟩
theorem pe_globS {X : Cx} {x y : Str} {pos : Pos} (hg : Gl X x) (h : ∃ t, X.mg x = some (Value.str y t)) (hd : (x == ("__debug__" : Str)) = false := by decide) : PE X (.Name x pos) (tC (.str y)) :=
  ⟨fun pins s σ H Q I q => let ⟨t, e⟩ := h; ld_glob I hg e ⟨.str y, H, I, ⟨t, rfl⟩, q⟩ hd⟩
end L2.Gq
set_option maxHeartbeats 4000000
/-! enumerate(xs), xs a list or a tuple. -/
namespace PySem
open Sem (wp)
theorem meets_enumB1 {v : Value} {o : Obj} {H : Heap → Prop} (B : Begins v o H) :
    Meets (Builtin.«enumerate.__new__» ⟨[.type "enumerate", v], []⟩) (fun _ R s => H s.heap ∧
      R (.ok (.ret (.ref (s.heap.push o).objs.size))) { s with heap := (s.heap.push o).push (enOf s.heap.objs.size 0) }) :=
  .of_wp fun prog w A R s h => by
    obtain ⟨hp, g, d, tk, os⟩ := s; obtain ⟨h1, h⟩ := h
    have hsub := sub_enumerate
    have q1 : ∀ {A' : Around} {E : Value → Shared → Prop} {Q : Value → Shared → Prop}, Q (.ref hp.objs.size) ⟨hp.push o, g, d, tk, os⟩ → wpAny (model prog w) A' (pyIter v) Q E ⟨hp, g, d, tk, os⟩ :=
      fun q => B.iter prog w _ _ ⟨hp, g, d, tk, os⟩ _ h1 q
    wp_walk using q1
    refine wpAny_stack_any fun st => wpAny_pure ?_
    split
    · rename_i c _ _ _ _ _
      cases (c == Value.type "enumerate")
      · wp_walk using q1
        exact ⟨_, rfl, h⟩
      · wp_walk using q1
        exact ⟨_, rfl, h⟩
    · wp_walk using q1
      exact ⟨_, rfl, h⟩
section
variable {prog : Program} {w : World} {A : Around} {E : Value → Shared → Prop} {s : Shared}
theorem enum_begins1 {v : Value} {o : Obj} {H : Heap → Prop} {Q : Value → Shared → Prop} (B : Begins v o H) (h1 : H s.heap)
    (h : ∀ h', IsEnum h' (s.heap.objs.size + 1) s.heap.objs.size 0 .none → h'.get? s.heap.objs.size = some o → h'.objs.size = s.heap.objs.size + 2 →
      (∀ b o, s.heap.get? b = some o → h'.get? b = some o) → Q (.ref (s.heap.objs.size + 1)) { s with heap := h' }) :
    wpAny (model prog w) A (call (.type "enumerate") [v]) Q E s := by
  refine callType_new F.called_enumerate (by decide) (F.typeCall_enumerate_1 _) (F.newCall_enumerate_1 _) (fun obj => F.args_object_init_2 obj _) F.entry_enumerate_new
    (meets_enumB1 B) ⟨h1, ?_⟩
  have hz : (s.heap.push o).objs.size = s.heap.objs.size + 1 := Heap.size_push ..
  show _ ∧ _
  rw [hz]
  have he : IsEnum ((s.heap.push o).push (enOf s.heap.objs.size 0)) (s.heap.objs.size + 1) s.heap.objs.size 0 .none := by
    have := Heap.get?_push_size (s.heap.push o) (o := enOf s.heap.objs.size 0) rfl
    rw [hz] at this; exact this
  refine ⟨⟨_, he, rfl⟩, h _ he (Heap.get?_push_of_some _ (Heap.get?_push_size _ B.free)) (by rw [Heap.size_push, hz]) fun b o x => Heap.get?_push_of_some _ (Heap.get?_push_of_some _ x)⟩
theorem draws_overT (hh : A.handled = none) (it t : Addr) (items : Array Value) (i : Nat) (hx : items[i]? = none) :
    Draws prog w A it [it, t] i (fun _ _ => False) (fun j h => j = i ∧ h.IsTupleIter it t i ∧ h.IsTuple t items) where
  live := fun _ _ ⟨_, st, _⟩ => let ⟨o, ho, _⟩ := st; ⟨o, ho⟩
  frame := fun _ _ _ ⟨e, st, st2⟩ hk => ⟨e, st.at fun o e => hk it (by simp) o e, st2.at fun o e => hk t (by simp) o e⟩
  item := fun j s Q E hj ⟨e, _⟩ hQ => absurd hj (by omega)
  done := fun s Q E ⟨_, st, st2⟩ hE => wpAny_nextOf_tuple_end hh st st2 hx hE
end
end PySem
namespace L2.Ent
open PySem PySem.Spec PyProof.Rows
/-- the tuple at a, each item in a new pair -/
def IteT (K : PySem.W.Frag) (a : Addr) : It :=
  ⟨fun i H => ∃ (xs : List V) (x : V), SqT K H a xs ∧ xs[i]? = some x, fun i H v H' => ∃ T x, v = .ref T ∧ H T = none ∧ H' = upd H T (.tup [.int (i : Nat), x]) ∧ ∀ xs, SqT K H a xs → xs[i]? = some x, fun i H => ∃ xs : List V, SqT K H a xs ∧ xs.length ≤ i⟩
theorem turn_enumT {P : Program} {w : World} {K : PySem.W.Frag} {elts : List Expr} {kk : Nat} {tpos : Pos} (a e it : Addr) :
    Turn P w K (.Tuple elts kk tpos) (IteT K a) [e, it] e (fun i h => (∃ old, IsEnum h e it ((i : Nat) : Int) old) ∧ h.IsTupleIter it a i ∧ e ≠ it) where
  mem := by simp
  obj := fun i h st b hb => by
    obtain ⟨⟨old, he⟩, ⟨o, ho, hc, hd⟩, _⟩ := st
    have e' : b = e ∨ b = it := by simpa using hb
    rcases e' with z | z
    · rw [z]; exact ⟨_, he, fun v q => nomatch q⟩
    · rw [z]; exact ⟨o, ho, fun v q => by rw [hd] at q; cases q⟩
  keep := fun i h h' st kp => let ⟨⟨old, he⟩, hi, hne⟩ := st; ⟨⟨old, kp e (by simp) _ he⟩, hi.at fun o q => kp it (by simp) o q, hne⟩
  item := by
    intro X hP hw hK hc i pins s σ H E I hf st hg
    subst hP hw hK
    obtain ⟨⟨old, he⟩, hit, hne⟩ := st
    obtain ⟨xs, x, hq, hx⟩ := hg
    obtain ⟨its, rv, p, hz⟩ := I.tuple hq
    have p : s.heap.IsTuple a its.toArray := p
    obtain ⟨u, hu, ru⟩ := rv.get hx
    have hel : e < s.heap.objs.size := Heap.lt_size he
    have hil : it < s.heap.objs.size := by obtain ⟨_, q, _⟩ := hit; exact Heap.lt_size q
    have hai : a ≠ it := fun z => by
      obtain ⟨o1, e1, c1, d1⟩ := hit
      obtain ⟨o2, e2, c2, n2, d2⟩ := p
      rw [z, e1] at e2
      cases e2
      rw [d1] at d2
      cases d2
    have hae : a ≠ e := fun z => by
      obtain ⟨o2, e2, c2, n2, d2⟩ := p
      rw [z, he] at e2
      cases e2
      cases d2
    have hil2 : i < its.length := by
      have q := List.getElem?_eq_some_iff.mp hu
      exact q.1
    refine wpAny_pyNext_enum_itemD (Draws.tuple (A := X.A.in1) (I.ok.hd hc) it a hai its.toArray) (i := i) he ⟨hit, p⟩ (by simp; exact hil2) hne (by simp; exact ⟨hne, Ne.symm hae⟩) fun x' h' tk hx' ho hst hT hsz hk => ?_
    have exu : x' = u := by
      have q : its.toArray[i]? = some u := by simpa using hu
      rw [q] at hx'
      exact (Option.some.inj hx').symm
    subst exu
    obtain ⟨hit', _⟩ := hst
    refine ⟨_, rfl, wpAny_letOwnedTupleGo_enum (s := { s with heap := h', toks := tk + 1 }) ho fun h'' he' sb => ?_⟩
    have hT2 : h''.get? s.heap.objs.size = some { cls := .type "tuple", data := .seq #[.int ((i : Nat) : Int) tk, x'] } := (sb.2 _ (Nat.ne_of_gt hel)).trans hT
    have new : ObjOk X.prog X.w (upd H s.heap.objs.size (.tup [.int ((i : Nat) : Int), x])) h'' s.heap.objs.size (.tup [.int ((i : Nat) : Int), x]) :=
      ⟨by show 2 ≤ sizeLine; decide, [.int ((i : Nat) : Int) tk, x'], .cons ⟨_, rfl⟩ (.cons ru .nil), ⟨_, hT2, rfl, _, rfl⟩⟩
    have I1 : Inv X pins σ (upd H s.heap.objs.size (.tup [.int ((i : Nat) : Int), x])) { s with heap := h'', toks := tk + 1 } :=
      I.turnedNew (ch := [e, it]) (fun b ob hb q => (sb.2 b (fun z => hb (by simp [z]))).trans (hk b ob (fun z => hb (by simp [z])) (fun z => hb (by simp [z])) q)) hf (Nat.le_refl _) new
    refine ⟨.ref s.heap.objs.size, _, I1, rfl, ⟨_, x, rfl, I.hok.fresh (Nat.le_refl _), rfl, fun ys hy => by rw [I.tuple_inj hy hq]; exact hx⟩, ⟨⟨x', ?_⟩, hit'.at fun o q => (sb.2 it (Ne.symm hne)).trans q, hne⟩, fun b hb => ?_⟩
    · have e1 : ((i + 1 : Nat) : Int) = (i : Int) + 1 := by omega
      rw [e1]; exact he'
    · have hb' : b < s.heap.objs.size := by
        have e' : b = e ∨ b = it := by simpa using hb
        rcases e' with z | z
        · rw [z]; exact hel
        · rw [z]; exact hil
      rw [upd_ne (Nat.ne_of_lt hb')]
      exact (hf b hb).1
  done := by
    intro X hP hw hK hc i pins s σ H E I hf st hg
    subst hP hw hK
    obtain ⟨⟨old, he⟩, hit, hne⟩ := st
    obtain ⟨xs, hq, hx⟩ := hg
    obtain ⟨its, rv, p, hz⟩ := I.tuple hq
    have p : s.heap.IsTuple a its.toArray := p
    obtain ⟨f0, f1, f2, f3, f4, f5⟩ := hf it (by simp)
    have hl := rv.length
    have hx' : its.toArray[i]? = none := by
      have q : its[i]? = none := List.getElem?_eq_none_iff.mpr (by omega)
      simpa using q
    exact wpAny_pyNext_enum_endD (draws_overT (A := X.A.in1) (I.ok.hd hc) it a its.toArray i hx') he ⟨rfl, hit, p⟩ fun h' eb => ⟨rfl, I.turned (t' := s.toks) (fun b o hb q => eb b o hb q) f0 f1 f3 f4 f5⟩
  self := fun A i s Q E st h => let ⟨⟨_, he⟩, _⟩ := st; wpAny_pyIter_enum he h
def iEnumS (K : PySem.W.Frag) (ta : TA) : TI := fun σ H R => ta σ H fun vs H1 => ∃ a xs, vs = [.ref a] ∧ ((SqL K H1 a xs ∧ R (Ite K a) H1) ∨ (SqT K H1 a xs ∧ R (IteT K a) H1))
theorem pi_enumS {X : Cx} {e : Expr} {ta : TA} {p pos tpos : Pos} {elts : List Expr} {kk : Nat} (hg : Gl X "enumerate") (hm : X.mg "enumerate" = none) (ha : PA X [e] ta) (hs : starEach [e] X.env = [(false, eval e X.env)] := by rfl) :
    PI X (.Tuple elts kk tpos) (.Call (.Name "enumerate" p) [e] [] pos) (iEnumS X.K ta) := by
  refine ⟨fun pins s σ H R I h => ?_⟩
  refine Call_ (ld_blt I hg hm boot_enumerate (PyProof.Rows.callWith_type1 (thn (ha.run pos pins s σ H _ I h) fun us s1 ⟨vs, H1, I1, r1, q1⟩ => ?_) hs rfl))
  obtain ⟨a, xs, ex, hq⟩ := q1
  subst ex
  cases r1 with
  | cons r rr =>
    cases rr
    cases r
    have e' : ∀ b ∈ [s1.heap.objs.size + 1, s1.heap.objs.size], s1.heap.objs.size ≤ b := fun b hb => by
      have e' : b = s1.heap.objs.size + 1 ∨ b = s1.heap.objs.size := by simpa using hb
      rcases e' with z | z
      · rw [z]; exact Nat.le_add_right _ _
      · rw [z]; exact Nat.le_refl _
    rcases hq with ⟨hq, q⟩ | ⟨hq, q⟩
    · obtain ⟨its, rv, p', hz⟩ := I1.list hq
      refine call_enumerate_list p'.isList fun h' he hit hsz hk => wpAny_pyIter_enum he ?_
      have I2 : Inv X pins σ H1 { s1 with heap := h' } := I1.kept (t' := s1.toks) hk
      exact ⟨s1.heap.objs.size + 1, [s1.heap.objs.size + 1, s1.heap.objs.size], _, _, H1, rfl, I2, turn_enum a (s1.heap.objs.size + 1) s1.heap.objs.size, ⟨⟨.none, he⟩, hit, Nat.succ_ne_self _⟩, fun b hb => I1.fpOk (e' b hb) (I1.hok.fresh (e' b hb)), q⟩
    · obtain ⟨its, rv, p', hz⟩ := I1.tuple hq
      refine enum_begins1 (begins_tuple a its.toArray) p' fun h' he hit hsz hk => wpAny_pyIter_enum he ?_
      have I2 : Inv X pins σ H1 { s1 with heap := h' } := I1.kept (t' := s1.toks) hk
      exact ⟨s1.heap.objs.size + 1, [s1.heap.objs.size + 1, s1.heap.objs.size], _, _, H1, rfl, I2, turn_enumT a (s1.heap.objs.size + 1) s1.heap.objs.size, ⟨⟨.none, he⟩, ⟨_, hit, rfl, rfl⟩, Nat.succ_ne_self _⟩, fun b hb => I1.fpOk (e' b hb) (I1.hok.fresh (e' b hb)), q⟩
theorem walk_enumT {K : PySem.W.Frag} {a : Addr} {xs : List V} : Walk (IteT K a) xs.length (fun H => SqT K H a xs) (YPair (fun i => some (.int (i : Nat))) (fun i => xs[i]?)) := by
  refine ⟨fun i _ hi q => ⟨xs, xs[i], q, by simp [hi]⟩, fun _ q => ⟨xs, q, Nat.le_refl _⟩, fun i H v H' _ q y => ?_⟩
  obtain ⟨T, x, h1, h2, h3, h4⟩ := y
  exact ⟨T, .int (i : Nat), x, h1, h2, h3, rfl, h4 xs q⟩
end L2.Ent
namespace L2.Ent
open PySem PySem.Spec PyProof.Rows
theorem sqL_same {K : PySem.W.Frag} {H H' : Hp} {a : Addr} {xs : List V} (h : SqL K H a xs) (s : Same H H') : SqL K H' a xs := by
  rcases h with (h | ⟨o, h⟩) | h
  · exact .inl (.inl (s _ _ h))
  · exact .inl (.inr ⟨o, s _ _ h⟩)
  · exact .inr h
theorem sqT_same {K : PySem.W.Frag} {H H' : Hp} {a : Addr} {xs : List V} (h : SqT K H a xs) (s : Same H H') : SqT K H' a xs := by
  rcases h with (h | ⟨o, h⟩) | h
  · exact .inl (.inl (s _ _ h))
  · exact .inl (.inr ⟨o, s _ _ h⟩)
  · exact .inr h
/-- a for over enumerate(l), l a list or a tuple that stands since Hb -/
theorem for_enumS {K : PySem.W.Frag} {a : Addr} {xs : List V} {j : Nat} {g : TG} {tb : TS} {D : Ends} {σ : St} {Hb H : Hp} (hv : σ[j]? = some (some (V.ref a))) (hq : SqL K Hb a xs ∨ SqT K Hb a xs) (Pv : Nat → St → Hp → Prop) (h0 : Pv 0 σ H)
    (hS : ∀ i σ' H', Pv i σ' H' → Same Hb H')
    (hs : ∀ i x σ H H', i < xs.length → Pv i σ H → YPair (fun i => some (.int (i : Nat))) (fun i => xs[i]?) i H x H' → g x σ H' fun σ2 H2 => tb { D with nx := Pv (i + 1), ct := Pv (i + 1), bk := D.nx } σ2 H2) (hd : ∀ σ H, Pv xs.length σ H → D.nx σ H) :
    tFor (iEnumS K (tCons (tVar j) tNil)) g tb D σ H := by
  refine ⟨_, hv, a, xs, rfl, ?_⟩
  rcases hq with h | h
  · exact .inl ⟨sqL_same h (hS _ _ _ h0), for_it walk_enum Pv h0 (fun i σ' H' _ p => sqL_same h (hS _ _ _ p)) hs hd⟩
  · exact .inr ⟨sqT_same h (hS _ _ _ h0), for_it walk_enumT Pv h0 (fun i σ' H' _ p => sqT_same h (hS _ _ _ p)) hs hd⟩
end L2.Ent
/-! join within a comprehension's block. -/
namespace L2.Ent
open PySem PySem.Spec PyProof.Rows
def tJoinK (K : PySem.W.Frag) (to te : TE) : TE := tM1 (fun x xs H Q => ∃ a p, ∃ ys : List Str, x = .str a ∧ xs = [.ref p] ∧ (SqL K H p (ys.map V.str) ∨ SqT K H p (ys.map V.str)) ∧
      (ys.map (·.length)).sum + ys.length * a.length ≤ 16777216 ∧ Q (.str (Txt.join a ys)) H) to te
theorem pe_joinK {K : PySem.W.Frag} {X : Cx} {o e : Expr} {to te : TE} {apos pos : Pos} (hK : X.K = K) (ho : PE X o to) (he : PE X e te) (hs : starEach [e] X.env = [(false, eval e X.env)] := by rfl) (hbase : attributeBase o "join" X.env (eval o X.env) = eval o X.env := by rfl) (hline : (apos.endLine == pos.line) = true := by rfl) :
    PE X (.Call (.Attribute o "join" apos) [e] [] pos) (tJoinK K to te) := by
  subst hK
  exact pe_join ho he hs hbase hline
end L2.Ent
set_option maxHeartbeats 2000000
/-! C(e, ..) within a try: what its __init__ lets out is told of at the slots of the moment; isinstance of a caught error that has a dict. -/
namespace L2.Ev
open PySem PySem.Spec PyProof.Rows
section
variable {X : Cx} {k : Nat} {fI C : Addr} {fd : FuncData} {ps : List Str} {sp : Sp} {E : St → XK} {CY : CXT}
theorem made_at {pins : List (Addr × Obj)} {σ : St} {H : Hp} {s : Shared} {Q : VK} {zs : List Value} {vs : List V} (M : Mk X.K C fI)
    (F : FnOk X.prog X.w X.K X.mg X.base CY k fI fd ps sp) (hr : Room (k + 1) X.A) (hb : Binds X.K fd ps [])
    (hx : PassesAt CY X σ (E σ)) (I : Inv X pins σ H s) (r : Vals vs zs)
    (h : ∀ x dx, H x = none → H dx = none → dx ≠ x → sp (.ref x :: vs) (upd (upd H dx (.own x)) x (.ins C dx [])) (fun v H2 => v = .non ∧ Q (.ref x) H2) (E σ)) :
    wpAny (model X.prog X.w) X.A (call (.ref C) zs) (EP X pins σ Q) X.xe s := by
  generalize hn : s.heap.objs.size = n
  have J := Inv.made (C := C) I
  rw [hn] at J
  have hq := h (n + 1) n (I.hok.fresh (by rw [hn]; exact Nat.le_succ _)) (I.hok.fresh (by rw [hn]; exact Nat.le_refl _)) (Nat.ne_of_lt n.lt_succ_self)
  have rz : Vals (V.ref (n + 1) :: vs) (Value.ref (n + 1) :: zs) := .cons rfl r
  have hl : (Value.ref (n + 1) :: zs).length = ps.length := rz.length.symm.trans (F.len _ _ _ _ hq)
  have bb := hb _ (Value.ref (n + 1) :: zs) J.kIn (by rw [List.append_nil]; exact hl)
  rw [List.append_nil] at bb
  have run := F.run _ X.stack _ _ ⟨Value.ref (n + 1) :: zs, []⟩ _ _ _ (E σ) (hr.make C zs []) (J.env0.make C zs []) bb rz hq
  refine wpAny_call (make_map (f := fI) I.kIn M.makes M.init (beq_iff_eq.mp M.fn) ?_)
  rw [hn]
  refine codeAny_mono run fun fl s2 out => ?_
  match fl, out with
  | .error er, out => exact hx pins _ _ er s2 J out
  | .ok (.ret u), out =>
    obtain ⟨v, H3, J3, rv, e3, q3⟩ := J.after out
    subst e3
    exact ⟨rv, V.ref (n + 1), H3, J3, rfl, q3⟩
  | .ok .next, out => exact out.elim
  | .ok .brk, out => exact out.elim
  | .ok .cont, out => exact out.elim
def tMakeS (C : Addr) (sp : Sp) (E : St → XK) (t : TA) : TE := fun σ H Q => t σ H fun vs H1 => ∀ x dx, H1 x = none → H1 dx = none → dx ≠ x →
  sp (.ref x :: vs) (upd (upd H1 dx (.own x)) x (.ins C dx [])) (fun v H2 => v = .non ∧ Q (.ref x) H2) (E σ)
theorem pe_makeS {x : Str} {p pos : Pos} {e : Expr} {es : List Expr} {t : TA} (M : Mk X.K C fI) (F : FnOk X.prog X.w X.K X.mg X.base CY k fI fd ps sp) (hr : Room (k + 1) X.A) (hg : Gl X x) (hm : X.mg x = some (.ref C)) (hb : Binds X.K fd ps [])
    (hx : ∀ σ, PassesAt CY X σ (E σ)) (ha : PA X (e :: es) t) (hd : (x == ("__debug__" : Str)) = false := by decide)
    (he : starEach (e :: es) X.env = (false, eval e X.env) :: starEach es X.env := by rfl) (hp : (backTo pos (starEach es X.env)).any (·.1) = false := by rfl) :
    PE X (.Call (.Name x p) (e :: es) [] pos) (tMakeS C sp E t) :=
  ⟨fun pins s σ H Q I h => wpAny_Call_Name_kw (ld_glob I hg hm
    (PySem.W.callWith_K (h₀ := X.base) I.ok.mod.kin M.kp (thn (ha.run pos pins s σ H _ I h) fun us s1 ⟨vs, H1, I1, r, q⟩ => ⟨I1.kIn, made_at M F hr hb (hx σ) I1 r q⟩) he hp) hd)⟩
end
/-- isinstance(e, c), e the caught error at a, of the class at C, with a dict -/
def rIsD (K : PySem.W.Frag) (a : Addr) (cls : Value) (d : Option Addr) : List V → Hp → VK → Prop := fun xs H Q =>
  ∃ (C dd : Addr) (fs : List (Str × V)) (c : V) (u : Value) (b : Bool), xs = [.ref a, c] ∧ ClsV c u ∧ cls = .ref C ∧ d = some dd ∧ H dd = some (.xd fs) ∧ ExcC K C ∧ PySem.W.kitOne K (.ref C) u = some b ∧ Q (.bl b) H
theorem call_isD {X : Cx} {a : Addr} {oe : Obj} {cls : Value} {d : Option Addr} {pn : List (Addr × Obj)} (hz : Zc cls d oe) (hf : ∃ vs, oe.data = .fields vs) : CallR (X.suite a ((a, oe) :: pn)) (.builtin "isinstance") (rIsD X.K a cls d) := by
  intro pins s σ H xs us Q I r h
  obtain ⟨C, dd, fs, c, u, b, rfl, hc, rfl, rfl, ed, T, e, q⟩ := h
  obtain ⟨u1, u2, rfl, r1, r2⟩ := vals2 r
  cases (show u1 = Value.ref a from r1)
  cases hc.eq r2
  obtain ⟨ha, _⟩ := I.pin (a, oe) (List.mem_append_left _ List.mem_cons_self)
  obtain ⟨vs, hv⟩ := hf
  have hx : ObjOk X.prog X.w H s.heap dd (.xd fs) := I.hok dd _ ed
  obtain ⟨mA, hns, _⟩ := hx
  obtain ⟨od, ho, _⟩ := lookIn_ns hns
  have J : PySem.W.InstAt s.heap a oe C (some od) := ⟨ha, hz.1, (by unfold PySem.W.notCls; rw [hv]), (by rw [hz.2]; exact ho)⟩
  have hcl : (PySem.W.clsIn X.K C).isSome = true := by
    obtain ⟨cd, hcd, _⟩ := PySem.W.any_some T.hd
    rw [hcd]
    rfl
  exact PySem.W.kia_one (PySem.W.kitx_exc (od := some od) (ox := oe) hcl T.hg T.hk T.hs T.ha T.hn T.ht T.hm) I.kIn J e (fun z => nomatch z) fun tk => ⟨.bl b, H, I.tok tk, rfl, q⟩
end L2.Ev
namespace L2.Ev
open PySem PySem.Spec PyProof.Rows
/-- raise C(v), C's __init__ keeping its one field: a new error with a new dict -/
theorem raise_k {C : Addr} {f : Str} {v : V} {σ : St} {H : Hp} {Ex : XK} (h : ∀ dx H2, Same H H2 → H2 dx = some (.xd [(f, v)]) → Ex (.ref C) (some dx) H2) :
    tMkO C (sp_ini1 C f) [] (fun _ H QA => QA [v] H) σ H fun cls d H' => Ex cls d H' := by
  refine ⟨(by show 1 ≤ 1000; decide), fun ea hea => ⟨ea, v, rfl, upd_same, fun dx n ne => ⟨rfl, dx, [(f, v)], upd_same, by rw [upd_ne ne, upd_same], ?_, ?_⟩⟩⟩
  · rw [upd_ne ne] at n; exact n
  · have hdx : H dx = none := by rw [upd_ne ne] at n; exact n
    refine h dx _ (fun b o e => ?_) upd_same
    have nb1 : b ≠ dx := fun z => by rw [z, hdx] at e; cases e
    have nb2 : b ≠ ea := fun z => by rw [z, hea] at e; cases e
    rw [upd_ne nb1]
    unfold del
    rw [if_neg nb2, upd_ne nb2, upd_ne nb1, upd_ne nb2]
    exact e
end L2.Ev
set_option maxHeartbeats 2000000
/-! lists of texts beside one another; a choice between two readings that come to alike ends -/
namespace L2.Ev
open PySem PySem.Spec PyProof.Rows
theorem dp_strs {K : PySem.W.Frag} {H : Hp} {a : Addr} {ls : List Str} (h : SqL K H a (ls.map V.str)) : Dp K H (.ref a) (.list (ls.map PyData.str)) := by
  refine .lst h ?_
  clear h
  induction ls with
  | nil => exact .nil
  | cons x r ih => exact .cons (.str x) ih
theorem lay_strs {ls : List Str} (h : ∀ x ∈ ls, PyData.strOk x = true) : PyData.canLay0 (.list (ls.map PyData.str)) = true := by
  show PyData.canLayAll0 (ls.map PyData.str) = true
  induction ls with
  | nil => rfl
  | cons x r ih =>
    have i := ih fun y hy => h y (List.mem_cons_of_mem _ hy)
    have hx := h x List.mem_cons_self
    simp only [List.map_cons, PyData.canLayAll0, PyData.canLay0, i, Bool.and_true]
    exact hx
theorem shaped_strs {ls : List Str} (h : ∀ x ∈ ls, PyData.strOk x = true) : SeqAt.shaped (.list (ls.map PyData.str)) = true := by
  refine Bool.and_eq_true_iff.mpr ⟨lay_strs h, decide_eq_true ?_⟩
  have z : PyData.depthAll (ls.map PyData.str) ≤ 60 := by
    clear h
    induction ls with
    | nil => simp [PyData.depthAll]
    | cons x r ih =>
      simp only [List.map_cons, PyData.depthAll, PyData.depth]
      omega
  simp only [PyData.depth]
  omega
theorem eqv_strs {ls : List Str} (h : ∀ x ∈ ls, PyData.strOk x = true) : PyData.eqv (.list (ls.map PyData.str)) (.list (ls.map PyData.str)) = true := SeqAt.eqv_refl _ (lay_strs h)
/-- a list of texts beside an equal one -/
theorem ne_strs {K : PySem.W.Frag} {H : Hp} {a b : Addr} {ls : List Str} {Q : VK} (ha : SqL K H a (ls.map V.str)) (hb : SqL K H b (ls.map V.str)) (hs : ∀ x ∈ ls, PyData.strOk x = true) (q : Q (.bl false) H) : rNeD K (.ref a) (.ref b) H Q :=
  ⟨_, _, dp_strs ha, dp_strs hb, shaped_strs hs, shaped_strs hs, by rw [eqv_strs hs]; exact q⟩
theorem strOk_cat {x y : Str} (hx : PyData.strOk x = true) (hy : PyData.strOk y = true) : PyData.strOk (x ++ y) = true := by
  unfold PyData.strOk at hx hy ⊢
  rw [← Array.all_toList] at hx hy ⊢
  rw [Str.cps_append, Array.toList_append, List.all_append, hx, hy]; rfl
theorem tif_two {b : Bool} {ta tb : TE} {σ : St} {H : Hp} {Q : VK} (good : V → Hp → Prop) (h1 : b = true → ∀ R : VK, (∀ v H', good v H' → R v H') → ta σ H R) (h2 : b = false → ∀ R : VK, (∀ v H', good v H' → R v H') → tb σ H R)
    (k : ∀ v H', good v H' → Q v H') : if b = true then ta σ H Q else tb σ H Q := by
  cases b with
  | true => exact iteT (h1 rfl Q k)
  | false => exact iteF (h2 rfl Q k)
theorem But.skip {p h : Addr} {H H1 H2 : Hp} (a : But p H H1) (n : H h = none) (b : But h H1 H2) : But p H H2 := fun c o hc e => b c o (fun z => by rw [z, n] at e; cases e) (a c o hc e)
theorem Pen.but {H H' : Hp} {p c h : Addr} {ns : List Int} {n : Nat} (q : Pen H p c ns n) (b : But h H H') (n1 : h ≠ p) (n2 : h ≠ c) : Pen H' p c ns n :=
  ⟨let ⟨t, l, e, z⟩ := q.d; ⟨t, l, b _ _ (Ne.symm n1) e, z⟩, b _ _ (Ne.symm n2) q.cells, q.len⟩
theorem Pen.pre {H : Hp} {p c : Addr} {ns : List Int} {n : Nat} (q : Pen H p c ns n) : ∃ o, H p = some (.dK o) := let ⟨t, l, e, _⟩ := q.d; ⟨_, e⟩
end L2.Ev
namespace L2.Ev
open PySem PySem.Spec PyProof.Rows
/-- [x for x in d], d a frozen dict -/
theorem lc_keys {d D : Addr} {o : Obj} {kvs : List (Key × V)} {σ : St} {H1 : Hp} {Qd : Hp → Prop} {j : Nat} (hD : H1 D = none) (hd : H1 d = some (.frz o (.dK kvs))) (hj : j < σ.length) (hn : kvs.length < sizeLine)
    (k : ∀ H2, Same H1 H2 → H2 D = some (.lst (kvs.map fun p => kV p.1)) → Qd H2) :
    ∃ W : Nat → Nat → Hp → Prop, (∃ m, W 0 m (L2.upd H1 D (.lst []))) ∧ ∀ i m H, W i m H → ((Itk d o kvs).stop i H ∧ Qd H) ∨ ((Itk d o kvs).go i H ∧ ∃ Nx : Hp → Prop, (∀ H', Nx H' → ∃ m', m' < m ∧ W (i + 1) m' H') ∧
      ∀ x H', (Itk d o kvs).yld i H x H' → gName j x (wipe σ [j]) H' fun σ2 H2 => wipe σ2 [j] = wipe σ [j] ∧ tYes σ2 H2 fun b H3 =>
        if b = true then tVar j σ2 H3 fun y H4 => ∃ acc, H4 D = some (.lst acc) ∧ acc.length < sizeLine ∧ Nx (L2.upd H4 D (.lst (acc ++ [y]))) else Nx H3) := by
  refine lc_grow (n := kvs.length) hD (fun i acc H' => acc = (kvs.take i).map fun p => kV p.1) (fun i acc H' o hp _ => hp) (fun _ _ => rfl) (fun i H hi s => ⟨s _ _ hd, hi⟩) (fun H s => ⟨s _ _ hd, Nat.le_refl _⟩) hn (fun i acc H F G hF hG hi s1 ha hp x H' yl => ?_) (fun acc H' s1 ha hp => ?_)
  · obtain ⟨rfl, k1, v1, e1, rfl⟩ := yl
    refine ⟨wipe1 σ j _, ?_⟩
    refine ⟨kV k1, wiped σ j _ hj, hF _ _ (Same.refl _) ?_⟩
    rw [hp, List.take_add_one, e1, List.map_append]; rfl
  · rw [List.take_length] at hp
    subst hp
    exact k H' s1 ha
end L2.Ev
namespace L2.Ev
open PySem PySem.Spec PyProof.Rows
/-- e.f within a comprehension -/
theorem pe_fldK {K : PySem.W.Frag} {X : Cx} {e : Expr} {ta : TE} {f : Str} {pos : Pos} (hK : X.K = K) (he : PE X e ta) (hb : attributeBase e f X.env (eval e X.env) = eval e X.env) : PE X (.Attribute e f pos) (tFld K ta f) := by
  subst hK
  exact pe_fld he hb
end L2.Ev
set_option maxHeartbeats 2000000
/-! Sets of the ints of a list: set(xs), x not in s, len(set(xs)). -/
namespace L2.Seti
open PySem PySem.Spec PyProof.Rows L2.Ev
/-- the unlike ones among the first i, in the order of their first places -/
def dist (ns : List Int) : List Int := firstMet (fun i => ns.getD i 0) ns.length
theorem range_getD (ns : List Int) : (List.range ns.length).map (fun i => ns.getD i 0) = ns := by
  apply List.ext_getElem (by simp)
  intro i h1 h2
  simp [List.getD_eq_getElem?_getD, List.getElem?_eq_getElem h2]
theorem dist_any (ns : List Int) (k : Int) : (dist ns).any (· == k) = decide (k ∈ ns) := by
  unfold dist
  rw [firstMet_any, range_getD, Bool.eq_iff_iff, List.any_eq_true, decide_eq_true_iff]
  exact ⟨fun ⟨x, h, e⟩ => by rw [← beq_iff_eq.mp e]; exact h, fun h => ⟨k, h, beq_self_eq_true k⟩⟩
theorem dist_le (ns : List Int) : (dist ns).length ≤ ns.length := firstMet_length_le _ _
theorem fold_len {ns : List Int} : ∀ (acc : List Int), (ns.foldl step_dedup acc).length = acc.length + ns.length → ns.Nodup ∧ ∀ k ∈ ns, k ∉ acc := by
  induction ns with
  | nil => intro acc _; exact ⟨List.nodup_nil, fun k h => absurd h List.not_mem_nil⟩
  | cons a r ih =>
    intro acc h
    rw [List.foldl_cons] at h
    have le := length_foldl_step_dedup_le r (step_dedup acc a)
    have hs : (step_dedup acc a).length ≤ acc.length + 1 := by unfold step_dedup; split <;> simp
    have e1 : (step_dedup acc a).length = acc.length + 1 := by simp only [List.length_cons] at h; omega
    have na : a ∉ acc := fun m => by
      unfold step_dedup at e1
      rw [if_pos (by simpa using m)] at e1
      omega
    have ee : step_dedup acc a = acc ++ [a] := by
      unfold step_dedup
      rw [if_neg (by simpa using na)]
    rw [ee] at h
    obtain ⟨h1, h2⟩ := ih (acc ++ [a]) (by rw [h]; simp; omega)
    refine ⟨List.nodup_cons.mpr ⟨fun m => h2 a m (by simp), h1⟩, fun k hk => ?_⟩
    rcases List.mem_cons.mp hk with rfl | hk
    · exact na
    · exact fun m => h2 k hk (List.mem_append_left _ m)
theorem dist_len (ns : List Int) : (dist ns).length = ns.length ↔ ns.Nodup := by
  refine ⟨fun h => ?_, fun h => ?_⟩
  · have z : ((List.range ns.length).map fun i => ns.getD i 0).foldl step_dedup [] = dist ns := rfl
    rw [range_getD] at z
    rw [← z] at h
    exact (fold_len [] (by simpa using h)).1
  · unfold dist
    rw [L2.firstMet_nodup ns h ns.length (Nat.le_refl _), List.take_length]
/-- the set of ints at a -/
def SetI (P : Program) (w : World) (a : Addr) (S : Int → Bool) : HO := .ext fun h => ∃ n, h.SetOf (intKind P w) a S n
section
variable {X : Cx}
theorem setI_ok {w : World} {P : Program} {H : Hp} {h : Heap} {a : Addr} {S : Int → Bool} {n : Nat} (R : h.SetOf (intKind P w) a S n) : ObjOk P w H h a (SetI P w a S) := by
  have there : ∃ o, h.get? a = some o := let ⟨o, _, _, _, e, _⟩ := R; ⟨o, e⟩
  exact ⟨⟨n, R⟩, there, fun h1 h2 z k => let ⟨m, o, es, ep, t, e, r⟩ := z; ⟨m, o, es, ep, t, k o e, r⟩⟩
/-- set(xs), xs a list of ints -/
def rSetI (K : PySem.W.Frag) (P : Program) (w : World) : List V → Hp → VK → Prop := fun xs H Q => ∃ (l : Addr) (ns : List Int), xs = [.ref l] ∧ SqL K H l (ns.map V.int) ∧ ns.length + 1 < scanBound ∧
  ∀ p H', H p = none → Same H H' → H' p = some (SetI P w p fun k => decide (k ∈ ns)) → Q (.ref p) H'
theorem set_ofI (hc : X.calm = true := by rfl) : CallR X (.type "set") (rSetI X.K X.prog X.w) := by
  intro pins s σ H xs us Q I r h
  obtain ⟨l, ns, rfl, hl, room, q⟩ := h
  obtain ⟨u, rfl, ru⟩ := vals1 r
  cases (show u = Value.ref l from ru)
  obtain ⟨its, rv, pl, _⟩ := I.list hl
  have sz : its.toArray.size = ns.length := by rw [List.size_toArray, ← rv.length, List.length_map]
  refine call_set_list (I.ok.hd hc) pl.isList (ns := ns) (by simpa using rv.ints) (by rw [sz]; exact room) fun h' tk hS hk => ?_
  rw [sz] at hS
  have e : (fun k' => (firstMet (fun i => ns.getD i 0) ns.length).any (· == k')) = fun k => decide (k ∈ ns) := funext fun k => dist_any ns k
  rw [e] at hS
  have n : H s.heap.objs.size = none := I.hok.fresh (Nat.le_refl _)
  exact ⟨.ref s.heap.objs.size, upd H s.heap.objs.size (SetI X.prog X.w s.heap.objs.size fun k => decide (k ∈ ns)), I.laid (t' := tk) (fun b o e => hk b o (Heap.lt_size e) e) (Nat.le_refl _) (setI_ok hS), rfl,
    q _ _ n (Same.new (Same.refl H) n) upd_same⟩
/-- x not in s, x in s -/
def rInI (P : Program) (w : World) (neg : Bool) : R2 := fun x y H Q => ∃ k a S, x = V.int k ∧ y = V.ref a ∧ H a = some (SetI P w a S) ∧ Q (.bl (if neg then !S k else S k)) H
theorem op_notInI : OpR X (compareOp .NotIn) (rInI X.prog X.w true) := by
  intro pins s σ H x y v u Q I rx ry h
  obtain ⟨k, a, S, rfl, rfl, ha, q⟩ := h
  obtain ⟨tk, rfl⟩ := rx
  cases ry
  obtain ⟨n, R⟩ := (show ∃ n, s.heap.SetOf (intKind X.prog X.w) a S n from (I.hok a _ ha).1)
  exact wpAny_notInSet_of (intKind_is _ _ _ _) rfl R ⟨.bl (!S k), H, I.tok _, rfl, q⟩
/-- len(set(xs)), xs a list of ints -/
def tLenSetN (K : PySem.W.Frag) (ta : TE) : TE := fun σ H Q => ta σ H fun x H1 => ∃ (l : Addr) (ns : List Int), x = V.ref l ∧ SqL K H1 l (ns.map V.int) ∧ ns.length + 1 < scanBound ∧ Q (.int (dist ns).length) H1
theorem pe_lenSetN {a : Expr} {ta : TE} {p p2 q pos : Pos} (hc : X.calm = true) (hg : Gl X "len") (hm : X.mg "len" = none) (hg2 : Gl X "set") (hm2 : X.mg "set" = none) (ha : PE X a ta)
    (na : starEach [a] X.env = (false, eval a X.env) :: starEach [] X.env := by rfl) : PE X (.Call (.Name "len" p) [.Call (.Name "set" p2) [a] [] q] [] pos) (tLenSetN X.K ta) := by
  refine ⟨fun pins s σ H Q I h => Call_ (ld_blt I hg hm PySem.boot_len (callWith_builtin1 (args_cons ?_ rfl) rfl rfl))⟩
  refine Call_ (ld_blt I hg2 hm2 boot_set (callWith_type1 (args_cons (thn (ha.run pins s σ H _ I h) fun v s1 ⟨x, H1, I1, r1, l, ns, ex, hq, room, q1⟩ => args_nil ?_) na) na rfl))
  subst ex
  cases (show v = Value.ref l from r1)
  obtain ⟨its, r, pl, hz⟩ := I1.list hq
  have sz : its.toArray.size = ns.length := by rw [List.size_toArray, ← r.length, List.length_map]
  refine call_set_list (I1.ok.hd hc) pl.isList (ns := ns) (by simpa using r.ints) (by rw [sz]; exact room) fun h' tk hS hk => args_nil ?_
  rw [sz] at hS
  obtain ⟨o, es, ep, t, ho, hex, hd, _, _, _, hf, hn⟩ := hS
  have I2 : Inv X pins σ H1 { s1 with heap := h', toks := tk } := I1.kept fun b o e => hk b o (Heap.lt_size e) e
  have le := dist_le ns
  have hsm : es.size < scanBound := by rw [hn]; unfold dist at le; omega
  exact call_len_set ho hex hd hf (by unfold scanBound at hsm; omega) ⟨.int (dist ns).length, H1, I2.tok _, ⟨_, by rw [hn]; rfl⟩, q1⟩
end
end L2.Seti
set_option maxHeartbeats 2000000
/-! Tuples of which the whole object is known to have no dict: made by tuple(xs), asked by a method. -/
namespace L2.Tpd
open PySem PySem.Spec PyProof.Rows L2.Ev
def TupN (H : Hp) (q : Addr) (xs : List V) : Prop := ∃ o : Obj, H q = some (.frz o (.tup xs)) ∧ o.dict = none
theorem TupN.sq {K : PySem.W.Frag} {H : Hp} {q : Addr} {xs : List V} (h : TupN H q xs) : SqT K H q xs := let ⟨o, e, _⟩ := h; .inl (.inr ⟨o, e⟩)
theorem TupN.keep {H H' : Hp} {q : Addr} {xs : List V} (h : TupN H q xs) (k : ∀ q o xs, H q = some (.frz o (.tup xs)) → H' q = some (.frz o (.tup xs))) : TupN H' q xs := let ⟨o, e, d⟩ := h; ⟨o, k _ _ _ e, d⟩
theorem TupN.same {H H' : Hp} {q : Addr} {xs : List V} (h : TupN H q xs) (s : Same H H') : TupN H' q xs := let ⟨o, e, d⟩ := h; ⟨o, s _ _ e, d⟩
section
variable {X : Cx}
/-- tuple(xs), xs a list -/
def rTupN (K : PySem.W.Frag) : List V → Hp → VK → Prop := fun xs H Q => ∃ p ys, xs = [.ref p] ∧ SqL K H p ys ∧ ∀ l H', H l = none → Same H H' → TupN H' l ys → Q (.ref l) H'
theorem tup_ofN : CallR X (.type "tuple") (rTupN X.K) := by
  intro pins s σ H xs us Q I r h
  obtain ⟨p, ys, rfl, hq, q⟩ := h
  obtain ⟨u, rfl, rx⟩ := vals1 r
  cases rx
  obtain ⟨its, rv, pl, hz⟩ := I.list hq
  refine call_tuple_list pl.isList (fun h' kp => ?_) (by have z := rv.length; simp only [List.size_toArray]; omega)
  generalize ho : ({ cls := .type "tuple", data := .seq its.toArray } : Obj) = ob
  have J : Inv X pins σ H { s with heap := h' } := I.kept (t' := s.toks) kp
  have n : H h'.objs.size = none := J.hok.fresh (Nat.le_refl _)
  have I2 : Inv X pins σ (upd H h'.objs.size (.frz ob (.tup ys))) { s with heap := h'.push ob } :=
    J.laid (t' := s.toks) (fun b o e => Heap.get?_push_of_some _ e) (Nat.le_refl _) ⟨by rw [← ho]; exact Heap.get?_push_size _ rfl, hz, its, rv, by rw [← ho]; exact IsTup.new _ _⟩
  exact ⟨.ref h'.objs.size, _, I2, rfl, q _ _ n (Same.new (Same.refl H) n) ⟨ob, upd_same, by rw [← ho]⟩⟩
/-- t.m(e, ..), t such a tuple -/
def tBMT (r : V → List V → Hp → VK → Prop) (to : TE) (t : TA) : TE := fun σ H Q => to σ H fun x H1 => (∃ p xs, x = .ref p ∧ TupN H1 p xs) ∧ t σ H1 fun xs H2 => r x xs H2 Q
theorem pe_bmT {o e : Expr} {es : List Expr} {to : TE} {t : TA} {name : Str} {apos cpos : Pos} {id : String} {r : V → List V → Hp → VK → Prop} (pa : PlainAttrs "tuple") (slot : Slot "tuple" name id) (hty : typeOf (.builtin id) = pure (.type "method_descriptor")) (hm : MtR X id r)
    (ho : PE X o to) (ha : PA X (e :: es) t) (hbase : attributeBase o name X.env (eval o X.env) = eval o X.env := by rfl)
    (hfew : ((backTo cpos (starEach (e :: es) X.env)).all (fun x => !x.1) && (backToKw cpos (keywordEach [] X.env)).all (fun x => x.1.isSome) && decide ((e :: es).length + ([] : List Keyword).length + (if ([] : List Keyword).isEmpty then 0 else 1) < 30)) = true := by rfl)
    (hline : (apos.endLine == cpos.line) = true := by rfl) (hs : starEach (e :: es) X.env = (false, eval e X.env) :: starEach es X.env := by rfl) (hplain : (backTo cpos (starEach es X.env)).any (·.1) = false := by rfl) :
    PE X (.Call (.Attribute o name apos) (e :: es) [] cpos) (tBMT r to t) := by
  refine ⟨fun pins s σ H Q I h => wpAny_Call_method_late hbase hfew hline rfl (thn (ho.run pins s σ H _ I h) fun v s1 ⟨x, H1, J, rx, ⟨p, xs, ex, ob, e1, e2⟩, q1⟩ => ?_)⟩
  subst ex
  cases (show v = Value.ref p from rx)
  have k : ObjOk X.prog X.w H1 s1.heap p (.frz ob (.tup xs)) := J.hok _ _ e1
  obtain ⟨hget, _, its, _, o2, ho2, hc, _⟩ := k
  have eo : o2 = ob := Option.some.inj (ho2.symm.trans hget)
  subst eo
  refine ⟨"tuple", id, pa, slot, hty, ⟨o2, hget, hc⟩, fun a z => ?_, ?_⟩
  · cases z; exact ⟨o2, hget, e2⟩
  · have hA := ha.run cpos pins s1 σ H1 _ J q1
    rw [hs] at hA ⊢
    refine Calls.callWith_builtin (by show (false || (backTo cpos (starEach es X.env)).any (·.1)) = false; rw [hplain]; rfl) (Calls.evalArgs_plain (thn hA fun us s2 ⟨vs, H2, I2, r2, q2⟩ => ?_))
    exact hm pins s2 σ H2 (.ref p) vs (.ref p) us Q I2 rfl r2 q2
end
end L2.Tpd
set_option maxHeartbeats 2000000
/-! lists of ints beside one another -/
namespace L2.Ev
open PySem PySem.Spec PyProof.Rows
theorem dp_ints {K : PySem.W.Frag} {H : Hp} {a : Addr} {ns : List Int} (h : SqL K H a (ns.map V.int)) : Dp K H (.ref a) (.list (ns.map PyData.int)) := by
  refine .lst h ?_
  clear h
  induction ns with
  | nil => exact .nil
  | cons x r ih => exact .cons (.int x) ih
theorem lay_ints (ns : List Int) : PyData.canLay0 (.list (ns.map PyData.int)) = true := by
  show PyData.canLayAll0 (ns.map PyData.int) = true
  induction ns with
  | nil => rfl
  | cons x r ih =>
    simp only [List.map_cons, PyData.canLayAll0, PyData.canLay0, ih, Bool.and_true]
theorem shaped_ints (ns : List Int) : SeqAt.shaped (.list (ns.map PyData.int)) = true := by
  refine Bool.and_eq_true_iff.mpr ⟨lay_ints ns, decide_eq_true ?_⟩
  have z : PyData.depthAll (ns.map PyData.int) ≤ 60 := by
    induction ns with
    | nil => simp [PyData.depthAll]
    | cons x r ih =>
      simp only [List.map_cons, PyData.depthAll, PyData.depth]
      omega
  simp only [PyData.depth]
  omega
theorem eqvAll_ints : ∀ (ns ms : List Int), PyData.eqvAll (ns.map PyData.int) (ms.map PyData.int) = decide (ns = ms)
  | [], [] => by simp [PyData.eqvAll]
  | [], _ :: _ => by simp [PyData.eqvAll]
  | _ :: _, [] => by simp [PyData.eqvAll]
  | n :: r, m :: s => by
    have i := eqvAll_ints r s
    simp only [List.map_cons, PyData.eqvAll, i]
    have e : PyData.eqv (.int n) (.int m) = decide (n = m) := by
      rw [Bool.eq_iff_iff]
      simp [PyData.eqv]
    rw [e]
    by_cases h : n = m
    · subst h
      by_cases h2 : r = s
      · subst h2; simp
      · simp [h2]
    · simp [h]
theorem eqv_ints (ns ms : List Int) : PyData.eqv (.list (ns.map PyData.int)) (.list (ms.map PyData.int)) = decide (ns = ms) := by
  have e : PyData.eqv (.list (ns.map PyData.int)) (.list (ms.map PyData.int)) = PyData.eqvAll (ns.map PyData.int) (ms.map PyData.int) := by simp [PyData.eqv]
  rw [e, eqvAll_ints]
/-- the only sorted one of its kind -/
theorem sorted_eq {ns ms : List Int} (hp : ms.Perm ns) (hs : ms.Pairwise (· ≤ ·)) : decide (ns = ms) = decide (ns.Pairwise (· ≤ ·)) := by
  by_cases h : ns.Pairwise (· ≤ ·)
  · rw [decide_eq_true h, decide_eq_true]
    exact (hp.symm).eq_of_pairwise (fun a b _ _ h1 h2 => Int.le_antisymm h1 h2) h hs
  · rw [decide_eq_false h, decide_eq_false]
    exact fun e => h (e ▸ hs)
end L2.Ev
set_option maxHeartbeats 2000000
/-! sorted of a list of tuples of ints, all of one width: a new list of the same tuples in some order. -/
namespace L2.Srw
open PySem PySem.Spec PyProof.Rows TS
section
variable {prog : Program} {w : World} {A : Around} {s : Shared}
theorem lexT {b : Bool} {xs : List Value} {ns : List Int} (hx : IntsAre xs ns) : ∀ {ys : List Value} {ms : List Int}, IntsAre ys ms → ns.length = ms.length →
    ∃ r : Bool, ∀ (i : Nat) (Q : Bool → Shared → Prop), Q r s → PySem.W.KatLex prog w A b false Q (xs.zip ys) i s := by
  induction hx with
  | nil =>
    intro ys ms hy hl
    cases hy with
    | nil => exact ⟨false, fun i Q h => PySem.W.kat_nil h⟩
    | cons q u hy => simp at hl
  | @cons p t xs ns hx ih =>
    intro ys ms hy hl
    cases hy with
    | nil => simp at hl
    | @cons q u ys ms hy =>
      obtain ⟨r, hr⟩ := ih hy (by simpa using hl)
      by_cases e : p = q
      · refine ⟨r, fun i Q h => ?_⟩
        show PySem.W.KatLex prog w A b false Q ((Value.int p t, Value.int q u) :: xs.zip ys) i s
        refine PySem.W.kat_cons (wpAny_eqBool_int ?_)
        rw [show (p == q) = true from beq_iff_eq.mpr e]
        exact PySem.W.kat_yes (hr _ _ h)
      · refine ⟨decide (p < q), fun i Q h => ?_⟩
        show PySem.W.KatLex prog w A b false Q ((Value.int p t, Value.int q u) :: xs.zip ys) i s
        refine PySem.W.kat_cons (wpAny_eqBool_int ?_)
        rw [show (p == q) = false from beq_eq_false_iff_ne.mpr e]
        exact PySem.W.kat_no (oneLt_ints _ h)
/-- tuples of d ints -/
def Wide (h : Heap) (d : Nat) (vs : List Value) : Prop := ∀ v, v ∈ vs → ∃ ns, TupInts h v ns ∧ ns.length = d
theorem firstsW {h : Heap} {d : Nat} (hd : 1 ≤ d) : ∀ vs : List Value, Wide h d vs → ∃ fs, PySem.W.KatTups h vs fs ∧ fs.length = vs.length ∧ ∀ f, f ∈ fs → ∃ n t, f = Value.int n t
  | [], _ => ⟨[], PySem.W.KatTups.nil, rfl, fun f hf => by simp at hf⟩
  | v :: vs, x => by
    obtain ⟨fs, k, hl, hi⟩ := firstsW hd vs fun u hu => x u (List.mem_cons_of_mem _ hu)
    obtain ⟨ns, ⟨a, xs, rfl, ⟨o, ho, hc, n, hdt⟩, i⟩, hn⟩ := x v List.mem_cons_self
    obtain ⟨y, ys, e⟩ : ∃ y ys, xs.toList = y :: ys := by
      cases q : xs.toList with
      | nil =>
        have l := i.length
        rw [q, List.length_nil] at l
        omega
      | cons y ys => exact ⟨y, ys, rfl⟩
    obtain ⟨m, t, hy⟩ := i.all y (by rw [e]; exact List.mem_cons_self)
    refine ⟨y :: fs, PySem.W.KatTups.cons ho hc hdt ?_ k, by rw [List.length_cons, List.length_cons, hl], fun f hf => ?_⟩
    · have z := congrArg (fun l : List Value => l[0]?) e
      simpa using z
    · rcases List.mem_cons.mp hf with rfl | hf
      · exact ⟨m, t, hy⟩
      · exact hi f hf
theorem wide_sortable {d : Nat} {a : Addr} {vs : List Value} (hd : 1 ≤ d) (h2 : 2 ≤ vs.length) (x : Wide s.heap d vs) (ha : ∀ o, s.heap.get? a = some o → o.cls ≠ .type "tuple") : Srt.Sortable prog w A s a vs := by
  intro h' keep
  have x' : Wide h' d vs := fun v hv => by
    obtain ⟨ns, t, l⟩ := x v hv
    exact ⟨ns, t.keeps fun b o e c => keep b o (fun z => by subst z; exact ha o e c) e, l⟩
  obtain ⟨fs, k, hl, hi⟩ := firstsW hd vs x'
  refine ⟨tuples' true, fun Q E hq => ?_, fun p q hp hq => ?_⟩
  · refine PySem.W.kat_kind (T := .type "int") k (by omega) (fun f hf => ?_) (by rfl) ?_
    · obtain ⟨n, t, rfl⟩ := hi f hf
      exact PySem.W.Looks.now
    · have e : (Value.type "int" != Value.type "tuple") = true := by first | decide +kernel | rfl | decide
      rw [e]
      exact hq
  · obtain ⟨ns, ⟨b, xs, e1, ⟨o, ho, hc, n, hdt⟩, i⟩, lp⟩ := x' _ hp
    obtain ⟨ms, ⟨b', ys, e2, ⟨o', ho', hc', n', hdt'⟩, i'⟩, lq⟩ := x' _ hq
    rw [e1, e2]
    obtain ⟨r, hr⟩ := lexT (prog := prog) (w := w) (A := A) (s := { s with heap := h' }) (b := true) i i' (by omega)
    refine ⟨r, PySem.W.kat_lt ho hdt ho' hdt' ?_⟩
    have sz : decide (xs.size < ys.size) = false := by
      have l1 := i.length
      have l2 := i'.length
      rw [Array.length_toList] at l1 l2
      exact decide_eq_false (by omega)
    rw [sz]
    exact hr 0 _ ⟨rfl, rfl⟩
end
/-- sorted(l), l a list of int tuples of one width -/
def rSortW (K : PySem.W.Frag) : List V → Hp → VK → Prop := fun vs H Q => ∃ (a : Addr) (xs : List V) (d : Nat), vs = [V.ref a] ∧ SqL K H a xs ∧ 1 ≤ d ∧ (∀ x ∈ xs, ∃ ns, TupI K H x ns ∧ ns.length = d) ∧
  ∀ ys p, ys.Perm xs → H p = none → Q (.ref p) (upd H p (.lst ys))
theorem sorted_rows {X : Cx} {K : PySem.W.Frag} (hK : X.K = K := by rfl) : CallR X (.builtin "sorted") (rSortW K) := by
  subst hK
  intro pins s σ H vs us Q I r h
  obtain ⟨a, xs, d, rfl, hs, hd, hx, q⟩ := h
  obtain ⟨its, rv, hl, hz⟩ := I.list hs
  rw [Vals.ref1 r]
  obtain ⟨e1, e2⟩ := refs_back rv fun x m => by
    obtain ⟨ns, ⟨t, e, _⟩, _⟩ := hx x m
    exact ⟨t, e⟩
  have wd : Wide s.heap d its := fun v hv => by
    obtain ⟨t, rfl⟩ := e2 v hv
    have hm : V.ref t ∈ xs := by rw [e1]; exact List.mem_map.mpr ⟨_, hv, rfl⟩
    obtain ⟨ns, ⟨t', e, ht⟩, hn⟩ := hx _ hm
    cases e
    exact ⟨ns, tupI_raw I ht, hn⟩
  refine Srt.sorted_any hl.isList (by rw [← rv.length]; exact hz) (fun h2 h₁ b hb k => ?_) fun out hp => ?_
  · refine wide_sortable (s := { s with heap := h₁ }) hd h2 (fun v hv => ?_) fun o e => ?_
    · obtain ⟨ns, t, l⟩ := wd v hv
      exact ⟨ns, t.keeps fun b o e _ => (k b o e).2, l⟩
    · have e' : some o = some (seqObj "list" its.toArray 0) := e.symm.trans hb
      cases e'
      intro c
      exact absurd (Value.type.inj c) (by decide)
  · have h3 : ∀ u ∈ out, ∃ a, u = Value.ref a := fun u hu => e2 u (hp.mem_iff.mp hu)
    obtain ⟨ep, he⟩ := sortedAll_at s.heap its out.toArray
    refine ⟨.ref _, upd H (s.heap.objs.size + 1) (.lst (out.map backV)), I.laid (t' := s.toks) (fun _ _ => sortedAll_old) (Nat.le_succ _) ⟨?_, out, ep, vals_back h3, he⟩, rfl, q _ _ ?_ (I.hok.fresh (Nat.le_succ _))⟩
    · rw [List.length_map, hp.length_eq, ← rv.length]; exact hz
    · rw [e1]; exact hp.map backV
end L2.Srw
set_option maxHeartbeats 4000000
/-! tuple * int with the int 0 or 1 also: times one is the same tuple, times naught a new empty one. -/
namespace L2.Tpm
open PySem PySem.Spec PyProof.Rows
theorem mul_one (l : Addr) (items : Array Value) (n : Nat) (dd : Option Addr) (sl : Array (Option Value)) (u : Tok) (c2 : items.isEmpty = false) :
    Meets (Builtin.«tuple.__mul__» ⟨[.ref l, .int 1 u], []⟩) (fun _ R s => s.heap.get? l = some { cls := .type "tuple", dict := dd, data := .seq items n, slots := sl } ∧ R (.ok (.ret (Value.ref l))) s) :=
  .of_wp fun prog w A R s h => by
    obtain ⟨hp, g, d, tk, os⟩ := s
    obtain ⟨hl, h⟩ := h
    have f1 := AutoSeq1.idx_int
    have c1 : (items.isEmpty || (1 : Int) == 1) = true := by rw [c2]; rfl
    wp_walk using wpAny_loadPart' hl
    repeat (first
      | (refine wpAny_ite_true (decide_eq_true c1) ?_; wp_walk using wpAny_loadPart' hl)
      | (refine wpAny_ite_true c1 ?_; wp_walk using wpAny_loadPart' hl))
    exact ⟨_, rfl, h⟩
theorem mul_none (l : Addr) (items : Array Value) (n : Nat) (dd : Option Addr) (sl : Array (Option Value)) (u : Tok) (c2 : items.isEmpty = false) :
    Meets (Builtin.«tuple.__mul__» ⟨[.ref l, .int 0 u], []⟩) (fun _ R s => s.heap.get? l = some { cls := .type "tuple", dict := dd, data := .seq items n, slots := sl } ∧
      R (.ok (.ret (Value.ref s.heap.objs.size))) { s with heap := s.heap.push { cls := Value.type "tuple", data := Data.seq #[] }, toks := s.toks }) :=
  .of_wp fun prog w A R s h => by
    obtain ⟨hp, g, d, tk, os⟩ := s
    obtain ⟨hl, h⟩ := h
    have f1 := AutoSeq1.idx_int
    have c1 : (items.isEmpty || (0 : Int) == 1) = false := by rw [c2]; rfl
    wp_walk using wpAny_loadPart' hl
    repeat (first
      | (refine wpAny_ite_false (decide_eq_false (by rw [c1]; exact Bool.false_ne_true)) ?_; wp_walk using wpAny_loadPart' hl))
    exact ⟨_, rfl, h⟩
/-- tuple * int, from naught on: times one the same tuple, else a new one -/
def rRepA (K : PySem.W.Frag) : R2 := fun x y H Q => ∃ l k xs, x = .ref l ∧ y = .int k ∧ SqT K H l xs ∧ xs ≠ [] ∧ 0 ≤ k ∧ k ≤ 1000 ∧ xs.length ≤ 1000 ∧ (k = 1 → Q (.ref l) H) ∧ (k ≠ 1 → ∀ p, H p = none → Q (.ref p) (upd H p (.tup (List.replicate k.toNat xs).flatten)))
section
variable {X : Cx}
theorem op_repA {K : PySem.W.Frag} (hK : X.K = K := by rfl) : OpR X (binaryOp .Mult) (rRepA K) := by
  subst hK
  intro pins s σ H x y v u Q I rx ry h
  obtain ⟨l, k, xs, rfl, rfl, hT, hne, h0, h1, hz, q1, q2⟩ := h
  by_cases k2 : 2 ≤ k
  · exact op_repT pins s σ H _ _ v u Q I rx ry ⟨l, k, xs, rfl, rfl, hT, hne, k2, h1, hz, q2 (by omega)⟩
  cases rx
  obtain ⟨t, rfl⟩ := ry
  obtain ⟨its, r, ⟨⟨cls, dd, data, sl⟩, ho, hc, n, hd⟩, hs⟩ := I.tuple hT
  simp only at hc hd
  subst hc hd
  have hle : its.length = xs.length := r.length.symm
  have hn : its ≠ [] := fun e => hne (by
    rw [e] at hle
    exact List.eq_nil_of_length_eq_zero hle.symm)
  have hi : its.toArray.isEmpty = false := by
    cases its with
    | nil => exact absurd rfl hn
    | cons a b => rfl
  by_cases e1 : k = 1
  · subst e1
    refine wpAny_binaryOp_repeat_ref (T := "tuple") (U := "int") (by decide) ⟨_, ho, rfl⟩ (fun s' => typeIs_int s' 1 t) noFill_tuple_mul F.fills_int_mul F.slot_int_rmul repeat_tuple F.slot_int_index.lookup
      (call_meets F.slot_int_rmul (typeIs_int s 1 t) F.entry_int_rmul (F.args_int_rmul_2 _ _) (int_rmul_tuple 1 t l its.toArray n dd sl)
        ⟨ho, rfl, ⟨_, ho, rfl⟩, call_meets F.slot_tuple_mul ⟨_, ho, rfl⟩ F.entry_tuple_mul (F.args_tuple_mul_2 _ _) (mul_one l its.toArray n dd sl t hi) ⟨ho, ?_⟩⟩)
    exact ⟨.ref l, H, I, rfl, q1 rfl⟩
  · have e0 : k = 0 := by omega
    subst e0
    refine wpAny_binaryOp_repeat_ref (T := "tuple") (U := "int") (by decide) ⟨_, ho, rfl⟩ (fun s' => typeIs_int s' 0 t) noFill_tuple_mul F.fills_int_mul F.slot_int_rmul repeat_tuple F.slot_int_index.lookup
      (call_meets F.slot_int_rmul (typeIs_int s 0 t) F.entry_int_rmul (F.args_int_rmul_2 _ _) (int_rmul_tuple 0 t l its.toArray n dd sl)
        ⟨ho, rfl, ⟨_, ho, rfl⟩, call_meets F.slot_tuple_mul ⟨_, ho, rfl⟩ F.entry_tuple_mul (F.args_tuple_mul_2 _ _) (mul_none l its.toArray n dd sl t hi) ⟨ho, ?_⟩⟩)
    refine ⟨.ref s.heap.objs.size, _, I.laid (t' := s.toks) (o := .tup []) (fun b ob q => Heap.get?_push_of_some _ q) (Nat.le_refl _) ?_, rfl, q2 (by decide) _ (I.hok.fresh (Nat.le_refl _))⟩
    exact ⟨Nat.zero_le _, _, .nil, IsTup.new _ _⟩
end
end L2.Tpm
set_option maxHeartbeats 4000000
/-! {k: v}, one pair, the key a tuple of ints and texts. -/
namespace L2.Dsp
open PySem PySem.Spec PyProof.Rows L2.Ev
def tDispT (tk tv : TE) : TE := fun σ H Q => ∀ p, H p = none → tk σ (L2.upd H p (.dT [])) fun x H1 => tv σ H1 fun y H2 =>
  ∃ (b : Addr) (k : List L2.Key), x = .ref b ∧ H2 b = some (.tup (k.map kV)) ∧ H2 p = some (.dT []) ∧ Q (.ref p) (L2.upd H2 p (.dT [(k, y)]))
def OneP (p : Addr) (Q : VK) : List (V × V) → Hp → Prop
  | [(x, y)], H2 => ∃ (b : Addr) (k : List L2.Key), x = .ref b ∧ H2 b = some (.tup (k.map kV)) ∧ H2 p = some (.dT []) ∧ Q (.ref p) (L2.upd H2 p (.dT [(k, y)]))
  | _, _ => False
theorem pe_dispT {X : Cx} {pos : Pos} {k v : Expr} {tk tv : TE} (hu : X.A.units + 1 < cLine) (hk : PE X k tk) (hv : PE X v tv) : PE X (.Dict [some k] [v] pos) (tDispT tk tv) := by
  refine ⟨fun pins s σ H Q I q => ?_⟩
  have hn := I.hok.fresh (Nat.le_refl s.heap.objs.size)
  have I1 : Inv X pins σ (L2.upd H s.heap.objs.size (.dT [])) { s with heap := s.heap.push { cls := .type "dict", data := .dict #[] } } :=
    I.laid (a := s.heap.objs.size) (t' := s.toks) (fun b o e => Heap.get?_push_of_some _ e) (Nat.le_refl _) (dt_empty s.heap I.big)
  have hp : PPs X pos [some k] [v] [(tk, tv)] := pps_cons hk hv pps_nil
  have shape : (evalEachOpt [some k] X.env).zip ((evalEach [v] X.env).map fun v => do let x ← v; standAt pos; pure x) = (pairTrees [some k] [v] X.env pos).map fun p => (some p.1, p.2) := rfl
  rw [arm_eval_Dict, shape, dictDisplay_pairs (pairTrees [some k] [v] X.env pos) (by intro z; cases z) (by show 1 < 17; decide)]
  refine wpAny_bind (wpAny_standAt (wpAny_bind ?_))
  refine wpAny_subDictH (knd := tupleKind (mixKind X.prog X.w)) (show X.A.units < cLine by omega) (by show 1 ≤ 15; decide) ?_
  refine thn (hp.run pins _ σ _ (OneP s.heap.objs.size Q) I1 (q _ hn)) fun ws s2 ⟨ps, H2, I2, rel, q2⟩ => ?_
  match ps, rel, q2 with
  | [(x, y)], .cons (b := (u, z)) hr .nil, ⟨b, ks, ex, eb, ed, q3⟩ =>
    subst ex
    obtain ⟨h1, h2⟩ := hr
    have hub : u = Value.ref b := h1
    subst hub
    obtain ⟨_, hd, xs, kt, dd⟩ := dt_of I2.hok ed
    cases kt
    refine ⟨[(ks, b, z)], ⟨rfl, rfl, key_of I2.hok eb, trivial⟩, dd, fun h' tk' dd' hs => wpAny_pure ⟨.ref s.heap.objs.size, _, ?_, rfl, q3⟩⟩
    obtain ⟨o, es, ep, hq, h2', h3, h4, _, h5⟩ := dd'
    have one : KT H2 [(ks, y)] (storedAllH [] [(ks, b, z)]) := .cons ⟨rfl, eb, h2⟩ .nil
    refine d_write I2 (by rw [ed]; exact True.intro) hs ⟨o, hq⟩ ⟨by show 1 ≤ sizeLine; decide, hd, _, one.keeps fun c ys ec => ?_, o, es, ep, hq, h2', h3, h4, h5⟩
    rw [upd_ne (ne_of ec ed (fun z => nomatch z))]
    exact ec
end L2.Dsp
set_option maxHeartbeats 2000000
/-! y = {k: v for ..}, stored within the comprehension's frame. -/
namespace L2.Dcs
open PySem PySem.Spec PyProof.Rows L2.Ev
section
variable {X : Cx}
theorem ps_setDc {i : Nat} {y : Str} {py : Pos} {kx vx tg iter : Expr} {ifs : List Expr} {scope : Scope} {own : List (Str × Nat)} {pos spos : Pos} {wi : TI} {g : TG} {tt : TT} {tk tv : TE} (calm : X.calm = true) (nd : X.N.Nodup) (at_ : X.N[i]? = some y) (loc : X.env.scope.names.lookup y = some .local)
    (sw : swapsWith (.DictComp kx vx [⟨tg, iter, ifs, 0⟩] scope pos) (some (.Name y py)) spos.line X.env = pure true) (walks : PI X tg iter wi) (blk : BlkOk X.N X.env.scope scope own)
    (hg : ∀ (s : Shared) (H : Hp) (C : Addr) (cl : List (Str × Addr)) (fp : List Addr), PG (X.blk s H scope (compEnvC scope cl C X.env) fp) tg g)
    (ht : ∀ (s : Shared) (H : Hp) (C : Addr) (cl : List (Str × Addr)) (fp : List Addr), PTs (X.blk s H scope (compEnvC scope cl C X.env) fp) ifs tt)
    (ke : ∀ (s : Shared) (H : Hp) (C : Addr) (cl : List (Str × Addr)) (fp : List Addr), PE (X.blk s H scope (compEnvC scope cl C X.env) fp) kx tk)
    (ve : ∀ (s : Shared) (H : Hp) (C : Addr) (cl : List (Str × Addr)) (fp : List Addr), PE (X.blk s H scope (compEnvC scope cl C X.env) fp) vx tv) (pl : ∀ x, foldedSetIterable iter X.env x = pure x := by intro _; rfl) :
    PS X (.Assign [.Name y py] (.DictComp kx vx [⟨tg, iter, ifs, 0⟩] scope pos) spos) (tAsg (tDc wi g tt tk tv (own.map (·.2))) (gName i)) := by
  refine ⟨fun pins s σ H D I q => ?_⟩
  rw [exec_Assign_Name_used _ _ _ _ sw]
  refine wpAny_bind (wpAny_standAt (wpAny_bind ?_))
  show wpAny _ X.A (do let _ ← comprehension (.DictComp kx vx [⟨tg, iter, ifs, 0⟩] scope pos) scope X.env (firstIterPos [⟨tg, iter, ifs, 0⟩] pos) newDict false (eval iter X.env) (some (assign (.Name y py) X.env))) _ _ s
  have q2 : tDc wi g tt tk tv (own.map (·.2)) σ H (fun x H1 => gName i x σ H1 D.nx) := q
  refine wpAny_bind (thn (dc_core (Qf := fun _ z => SP X pins D .next z) calm nd I walks blk hg ht ke ve pl q2 fun L C z m H' J q3 hn fr => ?_) fun _ z hz => wpAny_pure (wpAny_pure hz))
  show wpAny _ _ (assign (.Name y py) X.env (.ref L)) _ _ _
  refine wpAny_assign_Name (store_ok2 (v := V.ref L) J nd at_ (.inl loc) rfl (fun z2 J2 ⟨a, sb, ha⟩ => ?_) (.inr loc))
  obtain ⟨r0, r1, r2, r3, r4, r5⟩ := fr
  have neC : C ≠ a := ha.elim (fun e => by rw [e]; exact r1) fun e z => r4 y a e z.symm
  exact ⟨m, hn.sameBut sb neC, fun h3 sb3 => ⟨_, H', J2.turned (t' := z2.toks) (fun b o hb e => (sb3.2 b hb).trans e) r0 r1 r3 r4 r5, q3⟩⟩
theorem sw_trueD {kx vx : Expr} {gs : List Comprehension} {scope : Scope} {pos py : Pos} {y : Str} {l : Nat} {env : Env} (hk : env.scope.kind = .function) (hy : env.scope.names.lookup y = some .local) (hl : (py.line == pos.line) = true)
    (ha : (scope.names.any fun (n, k) => n == y && (k == .local || k == .cell)) = false) : swapsWith (.DictComp kx vx gs scope pos) (some (.Name y py)) l env = pure true := by
  have kd : env.kindOf y = some .local := hy; have bk : env.blockKind = .function := (by unfold Env.blockKind; rw [hk]; rfl)
  unfold swapsWith; simp only [bk, kd, ha, Expr.pos, hl]; rfl
end
end L2.Dcs
set_option maxHeartbeats 4000000
/-! d.values() as a thing of its own, and list(d.values()). -/
namespace L2.Vls
open PySem PySem.Spec PyProof.Rows L2.Ev L2.Dls
def ViewO (p d : Addr) : HO := .ext fun h => h.IsValuesView p d
def tVals (td : TE) : TE := fun σ H Q => td σ H fun x H1 => ∃ d o kvs, x = .ref d ∧ H1 d = some (.frz o (.dK kvs)) ∧ ∀ p, H1 p = none → Q (.ref p) (L2.upd H1 p (ViewO p d))
section
variable {X : Cx} {e : Expr} {td : TE} {apos cpos : Pos}
theorem view_ok {P : Program} {w : World} {H : Hp} {h : Heap} {p d : Addr} (e : h.get? p = some { cls := .type "dict_values", data := .fields #[.ref d] }) : ObjOk P w H h p (ViewO p d) :=
  ⟨⟨_, e, rfl, rfl⟩, ⟨_, e⟩, fun h1 h2 ⟨o, z, c, f⟩ k => ⟨o, k _ z, c, f⟩⟩
theorem pe_vals (he : PE X e td) (hbase : attributeBase e "values" X.env (eval e X.env) = eval e X.env := by rfl) (hline : (apos.endLine == cpos.line) = true := by rfl) : PE X (.Call (.Attribute e "values" apos) [] [] cpos) (tVals td) := by
  refine ⟨fun pins s σ H Q I h => ?_⟩
  refine wpAny_Call_method (T := "dict") (id := "dict.values") hbase rfl hline F.plainAttrs_dict F.slot_dict_values F.type_dict_values (thn (he.run pins s σ H _ I h) fun u s1 ⟨x, H1, J, rx, d, o, kvs, ex, hd, q⟩ => ?_)
  subst ex
  obtain rfl : u = Value.ref d := rx
  obtain ⟨lo, hgd, hx, es, ep, vs, hdt, hsz, kv, hm⟩ := J.frzK hd
  refine ⟨hm.dictOf.typeIs, hm.dictOf.mapOf.noDict, ?_⟩
  show wpAny _ _ (callWith cpos (.builtin "dict.values") [.ref d] [] []) _ X.xe s1
  refine method_meetsIn F.slot_dict_values F.entry_dict_values rfl (PySem.evalArgs_none ⟨rfl, hm.dictOf.typeIs, F.args_dict_values_1 _, _, meets_dict_values (mixKind X.prog X.w) d lo, ⟨vs, hm.dictOf⟩, ?_⟩)
  exact ⟨.ref s1.heap.objs.size, _, J.laid (t' := s1.toks) (fun b ob z => Heap.get?_push_of_some _ z) (Nat.le_refl _) (view_ok (Heap.get?_push_size _ rfl)), rfl, q _ (J.hok.fresh (Nat.le_refl _))⟩
/-- list(d.values()) -/
def rListV : List V → Hp → VK → Prop := fun xs H Q => ∃ p d o kvs, xs = [.ref p] ∧ H p = some (ViewO p d) ∧ H d = some (.frz o (.dK kvs)) ∧ Lays H (.lst (kvs.map (·.2))) Q
theorem list_ofV (hc : X.calm = true) : CallR X (.type "list") rListV := by
  intro pins s σ H xs us Q I r h
  obtain ⟨p, d, o, kvs, rfl, hp, hd, q⟩ := h
  obtain ⟨u, rfl, ru⟩ := vals1 r
  cases ru
  obtain ⟨lo, hgd, hx, es, ep, vs, hdt, hsz, kv, hm⟩ := I.frzK hd
  have hl : kvs.length = vs.length := Paired.length kv
  have hv : s.heap.IsValuesView p d := (show ObjOk X.prog X.w H s.heap p (ViewO p d) from I.hok p _ hp).1
  obtain ⟨hz, _⟩ := drd_at I (.inr ⟨o, hd⟩) |>.2
  refine PySem.W.kdl_call (PySem.W.kdl_values (knd := mixKind X.prog X.w)) (I.ok.hd hc) ⟨hv, hm⟩ (by omega) fun h' tk acc c hk hS hi => ?_
  have new : ObjOk X.prog X.w (L2.upd H s.heap.objs.size (.lst (kvs.map (·.2)))) h' s.heap.objs.size (.lst (kvs.map (·.2))) := by
    refine ⟨by rw [List.length_map]; exact hz, acc.toList, c, vals_at ?_ fun j u hu => ?_, by rw [Array.toArray_toList]; exact hS⟩
    · rw [Array.length_toList, hi.1, List.length_map, hl]
    · obtain ⟨k, e⟩ := hi.2 j u (by rw [← Array.getElem?_toList]; exact hu)
      have hj : j < vs.length := (List.getElem?_eq_some_iff.mp e).1
      obtain ⟨z, hz⟩ : ∃ z, kvs[j]? = some z := ⟨kvs[j]'(by omega), List.getElem?_eq_getElem (by omega)⟩
      obtain ⟨u2, hu2, ru2⟩ := kv_get kv (show kvs[j]? = some (z.1, z.2) from hz)
      rw [hu2] at e
      cases e
      exact ⟨z.2, by rw [List.getElem?_map, hz]; rfl, ru2⟩
  exact ⟨_, _, I.laid (t' := tk) hk (Nat.le_refl _) new, (show RelV (.ref s.heap.objs.size) _ from rfl), q.at _ (I.hok.fresh (Nat.le_refl _))⟩
theorem call_repr_bool : CallR X (.builtin "repr") (fun xs H Q => ∃ b : Bool, xs = [.bl b] ∧ Q (.str (if b then "True" else "False")) H) := by
  intro pins s σ H xs us Q I r h
  obtain ⟨b, rfl, q⟩ := h
  obtain ⟨u, rfl, ru⟩ := vals1 r
  cases ru
  exact PySem.P.repr_of_bool ⟨.str _, H, I.tok _, ⟨_, rfl⟩, q⟩
end
end L2.Vls
set_option maxHeartbeats 2000000
namespace L2.Pf
open PySem PySem.Spec PyProof.Rows L2.Ev L2.Tpd L2.Seti L2.Gq L2.Enf L2.Sett L2.Itr L2.Dls L2.Own
def topS (i : Nat) : Stmt := PySem.Challenge.pw_lookuploops_k13_whole_implied.main.body.getD i (.Pass ⟨0, 0, 0, 0⟩)
abbrev s_wall : Stmt := topS 0
abbrev n_wall : List Str := ["k"]
abbrev p_wall : List Str := ["k"]
theorem sc_wall : FnScope n_wall p_wall (defScope s_wall) := ⟨rfl, rfl, rfl, by decide +kernel, rfl, by decide +kernel, by decide +kernel⟩
abbrev s_BadFact_init : Stmt := inClass (topS 3) 0
abbrev n_BadFact_init : List Str := ["self", "index"]
abbrev p_BadFact_init : List Str := ["self", "index"]
theorem sc_BadFact_init : FnScope n_BadFact_init p_BadFact_init (defScope s_BadFact_init) := ⟨rfl, rfl, rfl, by decide +kernel, rfl, by decide +kernel, by decide +kernel⟩
abbrev s_BadProgram_init : Stmt := inClass (topS 4) 0
abbrev n_BadProgram_init : List Str := ["self", "line"]
abbrev p_BadProgram_init : List Str := ["self", "line"]
theorem sc_BadProgram_init : FnScope n_BadProgram_init p_BadProgram_init (defScope s_BadProgram_init) := ⟨rfl, rfl, rfl, by decide +kernel, rfl, by decide +kernel, by decide +kernel⟩
abbrev s_NoName_init : Stmt := inClass (topS 6) 0
abbrev n_NoName_init : List Str := ["self", "name"]
abbrev p_NoName_init : List Str := ["self", "name"]
theorem sc_NoName_init : FnScope n_NoName_init p_NoName_init (defScope s_NoName_init) := ⟨rfl, rfl, rfl, by decide +kernel, rfl, by decide +kernel, by decide +kernel⟩
abbrev s_reached : Stmt := topS 8
abbrev n_reached : List Str := ["place", "links", "known", "waiting", "here", "start", "goal"]
abbrev p_reached : List Str := ["place", "links"]
theorem sc_reached : FnScope n_reached p_reached (defScope s_reached) := ⟨rfl, rfl, rfl, by decide +kernel, rfl, by decide +kernel, by decide +kernel⟩
abbrev s_lines_of : Stmt := topS 13
abbrev n_lines_of : List Str := ["text"]
abbrev p_lines_of : List Str := ["text"]
theorem sc_lines_of : FnScope n_lines_of p_lines_of (defScope s_lines_of) := ⟨rfl, rfl, rfl, by decide +kernel, rfl, by decide +kernel, by decide +kernel⟩
abbrev s_words_of : Stmt := topS 14
abbrev n_words_of : List Str := ["line"]
abbrev p_words_of : List Str := ["line"]
theorem sc_words_of : FnScope n_words_of p_words_of (defScope s_words_of) := ⟨rfl, rfl, rfl, by decide +kernel, rfl, by decide +kernel, by decide +kernel⟩
abbrev s_is_name : Stmt := topS 15
abbrev n_is_name : List Str := ["text", "letter"]
abbrev p_is_name : List Str := ["text"]
theorem sc_is_name : FnScope n_is_name p_is_name (defScope s_is_name) := ⟨rfl, rfl, rfl, by decide +kernel, rfl, by decide +kernel, by decide +kernel⟩
abbrev s_read_facts : Stmt := topS 19
abbrev n_read_facts : List Str := ["schema", "lines", "facts", "links", "index", "line", "fact"]
abbrev p_read_facts : List Str := ["schema", "lines"]
theorem sc_read_facts : FnScope n_read_facts p_read_facts (defScope s_read_facts) := ⟨rfl, rfl, rfl, by decide +kernel, rfl, by decide +kernel, by decide +kernel⟩
abbrev s_read_fact : Stmt := topS 20
abbrev n_read_fact : List Str := ["schema", "line", "words", "place", "goal"]
abbrev p_read_fact : List Str := ["schema", "line"]
theorem sc_read_fact : FnScope n_read_fact p_read_fact (defScope s_read_fact) := ⟨rfl, rfl, rfl, by decide +kernel, rfl, by decide +kernel, by decide +kernel⟩
abbrev s_read_table : Stmt := topS 21
abbrev n_read_table : List Str := ["schema", "word"]
abbrev p_read_table : List Str := ["schema", "word"]
theorem sc_read_table : FnScope n_read_table p_read_table (defScope s_read_table) := ⟨rfl, rfl, rfl, by decide +kernel, rfl, by decide +kernel, by decide +kernel⟩
abbrev s_read_column : Stmt := topS 22
abbrev n_read_column : List Str := ["schema", "word", "table", "_", "column"]
abbrev p_read_column : List Str := ["schema", "word"]
theorem sc_read_column : FnScope n_read_column p_read_column (defScope s_read_column) := ⟨rfl, rfl, rfl, by decide +kernel, rfl, by decide +kernel, by decide +kernel⟩
abbrev s_leads_back : Stmt := topS 23
abbrev n_leads_back : List Str := ["fact", "links", "start", "goal"]
abbrev p_leads_back : List Str := ["fact", "links"]
theorem sc_leads_back : FnScope n_leads_back p_leads_back (defScope s_leads_back) := ⟨rfl, rfl, rfl, by decide +kernel, rfl, by decide +kernel, by decide +kernel⟩
abbrev s_column_links : Stmt := topS 24
abbrev n_column_links : List Str := ["facts", "word", "place", "goal"]
abbrev p_column_links : List Str := ["facts"]
theorem sc_column_links : FnScope n_column_links p_column_links (defScope s_column_links) := ⟨rfl, rfl, rfl, by decide +kernel, rfl, by decide +kernel, by decide +kernel⟩
abbrev s_table_links : Stmt := topS 25
abbrev n_table_links : List Str := ["facts", "place", "goal"]
abbrev p_table_links : List Str := ["facts"]
theorem sc_table_links : FnScope n_table_links p_table_links (defScope s_table_links) := ⟨rfl, rfl, rfl, by decide +kernel, rfl, by decide +kernel, by decide +kernel⟩
abbrev s_places_of : Stmt := topS 26
abbrev n_places_of : List Str := ["facts", "word", "own", "place", "_"]
abbrev p_places_of : List Str := ["facts", "word"]
theorem sc_places_of : FnScope n_places_of p_places_of (defScope s_places_of) := ⟨rfl, rfl, rfl, by decide +kernel, rfl, by decide +kernel, by decide +kernel⟩
abbrev s_follows : Stmt := topS 28
abbrev n_follows : List Str := ["facts", "fact", "word", "place", "goal", "table", "lone"]
abbrev p_follows : List Str := ["facts", "fact"]
theorem sc_follows : FnScope n_follows p_follows (defScope s_follows) := ⟨rfl, rfl, rfl, by decide +kernel, rfl, by decide +kernel, by decide +kernel⟩
abbrev s_is_filled : Stmt := topS 29
abbrev n_is_filled : List Str := ["facts", "table", "links", "filled", "_"]
abbrev p_is_filled : List Str := ["facts", "table"]
theorem sc_is_filled : FnScope n_is_filled p_is_filled (defScope s_is_filled) := ⟨rfl, rfl, rfl, by decide +kernel, rfl, by decide +kernel, by decide +kernel⟩
abbrev s_is_found : Stmt := topS 30
abbrev n_is_found : List Str := ["facts", "place", "goal", "links"]
abbrev p_is_found : List Str := ["facts", "place", "goal"]
theorem sc_is_found : FnScope n_is_found p_is_found (defScope s_is_found) := ⟨rfl, rfl, rfl, by decide +kernel, rfl, by decide +kernel, by decide +kernel⟩
abbrev s_turned_links : Stmt := topS 31
abbrev n_turned_links : List Str := ["facts", "table", "lone", "there", "place", "goal"]
abbrev p_turned_links : List Str := ["facts", "table"]
theorem sc_turned_links : FnScope n_turned_links p_turned_links (defScope s_turned_links) := ⟨rfl, rfl, rfl, by decide +kernel, rfl, by decide +kernel, by decide +kernel⟩
abbrev s_lone_tables : Stmt := topS 32
abbrev n_lone_tables : List Str := ["facts", "lone", "table", "_", "unique", "place"]
abbrev p_lone_tables : List Str := ["facts"]
theorem sc_lone_tables : FnScope n_lone_tables p_lone_tables (defScope s_lone_tables) := ⟨rfl, rfl, rfl, by decide +kernel, rfl, by decide +kernel, by decide +kernel⟩
abbrev s_is_constant : Stmt := topS 33
abbrev n_is_constant : List Str := ["facts", "lone", "place", "table", "_"]
abbrev p_is_constant : List Str := ["facts", "lone", "place"]
theorem sc_is_constant : FnScope n_is_constant p_is_constant (defScope s_is_constant) := ⟨rfl, rfl, rfl, by decide +kernel, rfl, by decide +kernel, by decide +kernel⟩
abbrev s_Facts_init : Stmt := inClass (topS 35) 0
abbrev n_Facts_init : List Str := ["self", "schema", "lines"]
abbrev p_Facts_init : List Str := ["self", "schema", "lines"]
theorem sc_Facts_init : FnScope n_Facts_init p_Facts_init (defScope s_Facts_init) := ⟨rfl, rfl, rfl, by decide +kernel, rfl, by decide +kernel, by decide +kernel⟩
abbrev s_Facts_lines : Stmt := inClass (topS 35) 1
abbrev n_Facts_lines : List Str := ["self"]
abbrev p_Facts_lines : List Str := ["self"]
theorem sc_Facts_lines : FnScope n_Facts_lines p_Facts_lines (defScope s_Facts_lines) := ⟨rfl, rfl, rfl, by decide +kernel, rfl, by decide +kernel, by decide +kernel⟩
abbrev s_Facts_iter : Stmt := inClass (topS 35) 2
abbrev n_Facts_iter : List Str := ["self"]
abbrev p_Facts_iter : List Str := ["self"]
theorem sc_Facts_iter : FnScope n_Facts_iter p_Facts_iter (defScope s_Facts_iter) := ⟨rfl, rfl, rfl, by decide +kernel, rfl, by decide +kernel, by decide +kernel⟩
abbrev s_Facts_contains : Stmt := inClass (topS 35) 3
abbrev n_Facts_contains : List Str := ["self", "line"]
abbrev p_Facts_contains : List Str := ["self", "line"]
theorem sc_Facts_contains : FnScope n_Facts_contains p_Facts_contains (defScope s_Facts_contains) := ⟨rfl, rfl, rfl, by decide +kernel, rfl, by decide +kernel, by decide +kernel⟩
abbrev s_Facts_or : Stmt := inClass (topS 35) 4
abbrev n_Facts_or : List Str := ["self", "other"]
abbrev p_Facts_or : List Str := ["self", "other"]
theorem sc_Facts_or : FnScope n_Facts_or p_Facts_or (defScope s_Facts_or) := ⟨rfl, rfl, rfl, by decide +kernel, rfl, by decide +kernel, by decide +kernel⟩
abbrev s_Facts_broken : Stmt := inClass (topS 35) 5
abbrev n_Facts_broken : List Str := ["self", "tables"]
abbrev p_Facts_broken : List Str := ["self", "tables"]
theorem sc_Facts_broken : FnScope n_Facts_broken p_Facts_broken (defScope s_Facts_broken) := ⟨rfl, rfl, rfl, by decide +kernel, rfl, by decide +kernel, by decide +kernel⟩
abbrev s_Facts_are_over : Stmt := inClass (topS 35) 6
abbrev n_Facts_are_over : List Str := ["self", "schema"]
abbrev p_Facts_are_over : List Str := ["self", "schema"]
theorem sc_Facts_are_over : FnScope n_Facts_are_over p_Facts_are_over (defScope s_Facts_are_over) := ⟨rfl, rfl, rfl, by decide +kernel, rfl, by decide +kernel, by decide +kernel⟩
abbrev s_Facts_as_read : Stmt := inClass (topS 35) 7
abbrev n_Facts_as_read : List Str := ["self"]
abbrev p_Facts_as_read : List Str := ["self"]
theorem sc_Facts_as_read : FnScope n_Facts_as_read p_Facts_as_read (defScope s_Facts_as_read) := ⟨rfl, rfl, rfl, by decide +kernel, rfl, by decide +kernel, by decide +kernel⟩
abbrev s_Facts_implies : Stmt := inClass (topS 35) 8
abbrev n_Facts_implies : List Str := ["self", "line", "fact"]
abbrev p_Facts_implies : List Str := ["self", "line"]
theorem sc_Facts_implies : FnScope n_Facts_implies p_Facts_implies (defScope s_Facts_implies) := ⟨rfl, rfl, rfl, by decide +kernel, rfl, by decide +kernel, by decide +kernel⟩
abbrev s_Schema_init : Stmt := inClass (topS 39) 0
abbrev n_Schema_init : List Str := ["self", "text"]
abbrev p_Schema_init : List Str := ["self", "text"]
theorem sc_Schema_init : FnScope n_Schema_init p_Schema_init (defScope s_Schema_init) := ⟨rfl, rfl, rfl, by decide +kernel, rfl, by decide +kernel, by decide +kernel⟩
abbrev s_Schema_columns : Stmt := inClass (topS 39) 1
abbrev n_Schema_columns : List Str := ["self", "table"]
abbrev p_Schema_columns : List Str := ["self", "table"]
theorem sc_Schema_columns : FnScope n_Schema_columns p_Schema_columns (defScope s_Schema_columns) := ⟨rfl, rfl, rfl, by decide +kernel, rfl, by decide +kernel, by decide +kernel⟩
abbrev s_Schema_fits : Stmt := inClass (topS 39) 2
abbrev n_Schema_fits : List Str := ["self", "other"]
abbrev p_Schema_fits : List Str := ["self", "other"]
theorem sc_Schema_fits : FnScope n_Schema_fits p_Schema_fits (defScope s_Schema_fits) := ⟨rfl, rfl, rfl, by decide +kernel, rfl, by decide +kernel, by decide +kernel⟩
abbrev s_Schema_check : Stmt := inClass (topS 39) 3
abbrev n_Schema_check : List Str := ["self", "tables"]
abbrev p_Schema_check : List Str := ["self", "tables"]
theorem sc_Schema_check : FnScope n_Schema_check p_Schema_check (defScope s_Schema_check) := ⟨rfl, rfl, rfl, by decide +kernel, rfl, by decide +kernel, by decide +kernel⟩
abbrev s_declared_tables : Stmt := topS 40
abbrev n_declared_tables : List Str := ["text", "lines", "tables", "number", "line", "words"]
abbrev p_declared_tables : List Str := ["text"]
theorem sc_declared_tables : FnScope n_declared_tables p_declared_tables (defScope s_declared_tables) := ⟨rfl, rfl, rfl, by decide +kernel, rfl, by decide +kernel, by decide +kernel⟩
abbrev s_is_table_line : Stmt := topS 41
abbrev n_is_table_line : List Str := ["words", "columns", "word"]
abbrev p_is_table_line : List Str := ["words"]
theorem sc_is_table_line : FnScope n_is_table_line p_is_table_line (defScope s_is_table_line) := ⟨rfl, rfl, rfl, by decide +kernel, rfl, by decide +kernel, by decide +kernel⟩
abbrev s_begun_pen : Stmt := topS 43
abbrev n_begun_pen : List Str := ["_law_script"]
abbrev p_begun_pen : List Str := ["_law_script"]
theorem sc_begun_pen : FnScope n_begun_pen p_begun_pen (defScope s_begun_pen) := ⟨rfl, rfl, rfl, by decide +kernel, rfl, by decide +kernel, by decide +kernel⟩
abbrev s_draw : Stmt := topS 44
abbrev n_draw : List Str := ["_law_pen", "_law_span", "_law_digit", "_law_turn", "_law_cell", "_law_mixed"]
abbrev p_draw : List Str := ["_law_pen", "_law_span"]
theorem sc_draw : FnScope n_draw p_draw (defScope s_draw) := ⟨rfl, rfl, rfl, by decide +kernel, rfl, by decide +kernel, by decide +kernel⟩
abbrev s_pick : Stmt := topS 45
abbrev n_pick : List Str := ["_law_pen", "_law_options"]
abbrev p_pick : List Str := ["_law_pen", "_law_options"]
theorem sc_pick : FnScope n_pick p_pick (defScope s_pick) := ⟨rfl, rfl, rfl, by decide +kernel, rfl, by decide +kernel, by decide +kernel⟩
abbrev s_shuffled : Stmt := topS 46
abbrev n_shuffled : List Str := ["_law_pen", "_law_items", "_law_rest", "_law_found"]
abbrev p_shuffled : List Str := ["_law_pen", "_law_items"]
theorem sc_shuffled : FnScope n_shuffled p_shuffled (defScope s_shuffled) := ⟨rfl, rfl, rfl, by decide +kernel, rfl, by decide +kernel, by decide +kernel⟩
abbrev s_new_names : Stmt := topS 47
abbrev n_new_names : List Str := ["_law_pen", "_law_many", "_law_found"]
abbrev p_new_names : List Str := ["_law_pen", "_law_many"]
theorem sc_new_names : FnScope n_new_names p_new_names (defScope s_new_names) := ⟨rfl, rfl, rfl, by decide +kernel, rfl, by decide +kernel, by decide +kernel⟩
abbrev s_columns : Stmt := topS 48
abbrev n_columns : List Str := ["_law_plain", "_law_table", "_law_name", "_law_columns_here"]
abbrev p_columns : List Str := ["_law_plain", "_law_table"]
theorem sc_columns : FnScope n_columns p_columns (defScope s_columns) := ⟨rfl, rfl, rfl, by decide +kernel, rfl, by decide +kernel, by decide +kernel⟩
abbrev s_keeps : Stmt := topS 49
abbrev n_keeps : List Str := ["_law_plain", "_law_fact", "_law_tables", "_law_words", "_law_name", "_law_column", "_law_at", "_law_values", "_law_row", "_law_other", "_law_place", "_law_there", "_law_value"]
abbrev p_keeps : List Str := ["_law_plain", "_law_fact", "_law_tables"]
theorem sc_keeps : FnScope n_keeps p_keeps (defScope s_keeps) := ⟨rfl, rfl, rfl, by decide +kernel, rfl, by decide +kernel, by decide +kernel⟩
abbrev s_keeps_all : Stmt := topS 50
abbrev n_keeps_all : List Str := ["_law_plain", "_law_facts", "_law_tables", "_law_fact"]
abbrev p_keeps_all : List Str := ["_law_plain", "_law_facts", "_law_tables"]
theorem sc_keeps_all : FnScope n_keeps_all p_keeps_all (defScope s_keeps_all) := ⟨rfl, rfl, rfl, by decide +kernel, rfl, by decide +kernel, by decide +kernel⟩
abbrev s_schema_text : Stmt := topS 51
abbrev n_schema_text : List Str := ["_law_tables", "_law_name", "_law_columns_here"]
abbrev p_schema_text : List Str := ["_law_tables"]
theorem sc_schema_text : FnScope n_schema_text p_schema_text (defScope s_schema_text) := ⟨rfl, rfl, rfl, by decide +kernel, rfl, by decide +kernel, by decide +kernel⟩
abbrev s_spot : Stmt := topS 52
abbrev n_spot : List Str := ["_law_pen", "_law_table"]
abbrev p_spot : List Str := ["_law_pen", "_law_table"]
theorem sc_spot : FnScope n_spot p_spot (defScope s_spot) := ⟨rfl, rfl, rfl, by decide +kernel, rfl, by decide +kernel, by decide +kernel⟩
abbrev s_each_once : Stmt := topS 53
abbrev n_each_once : List Str := ["_law_lines", "_law_at", "_law_line"]
abbrev p_each_once : List Str := ["_law_lines"]
theorem sc_each_once : FnScope n_each_once p_each_once (defScope s_each_once) := ⟨rfl, rfl, rfl, by decide +kernel, rfl, by decide +kernel, by decide +kernel⟩
abbrev s_fact_tables : Stmt := topS 54
abbrev n_fact_tables : List Str := ["_law_line", "_law_words"]
abbrev p_fact_tables : List Str := ["_law_line"]
theorem sc_fact_tables : FnScope n_fact_tables p_fact_tables (defScope s_fact_tables) := ⟨rfl, rfl, rfl, by decide +kernel, rfl, by decide +kernel, by decide +kernel⟩
abbrev s_led_from : Stmt := topS 55
abbrev n_led_from : List Str := ["_law_facts", "_law_table", "_law_found", "_law_turn", "_law_line", "_law_one", "_law_two"]
abbrev p_led_from : List Str := ["_law_facts", "_law_table"]
theorem sc_led_from : FnScope n_led_from p_led_from (defScope s_led_from) := ⟨rfl, rfl, rfl, by decide +kernel, rfl, by decide +kernel, by decide +kernel⟩
abbrev s_filled : Stmt := topS 56
abbrev n_filled : List Str := ["_law_facts", "_law_found", "_law_line"]
abbrev p_filled : List Str := ["_law_facts"]
theorem sc_filled : FnScope n_filled p_filled (defScope s_filled) := ⟨rfl, rfl, rfl, by decide +kernel, rfl, by decide +kernel, by decide +kernel⟩
abbrev s_found_pairs : Stmt := topS 57
abbrev n_found_pairs : List Str := ["_law_facts", "_law_line"]
abbrev p_found_pairs : List Str := ["_law_facts"]
theorem sc_found_pairs : FnScope n_found_pairs p_found_pairs (defScope s_found_pairs) := ⟨rfl, rfl, rfl, by decide +kernel, rfl, by decide +kernel, by decide +kernel⟩
abbrev s_fixed : Stmt := topS 58
abbrev n_fixed : List Str := ["_law_tables", "_law_facts", "_law_ones", "_law_spots", "_law_turn", "_law_name", "_law_columns_here", "_law_own", "_law_column", "_law_sharp", "_law_spot_here", "_law_one", "_law_two"]
abbrev p_fixed : List Str := ["_law_tables", "_law_facts"]
theorem sc_fixed : FnScope n_fixed p_fixed (defScope s_fixed) := ⟨rfl, rfl, rfl, by decide +kernel, rfl, by decide +kernel, by decide +kernel⟩
abbrev s_same_value : Stmt := topS 59
abbrev n_same_value : List Str := ["_law_facts", "_law_spots", "_law_spot_here", "_law_there", "_law_found", "_law_turn", "_law_one", "_law_two"]
abbrev p_same_value : List Str := ["_law_facts", "_law_spots", "_law_spot_here", "_law_there"]
theorem sc_same_value : FnScope n_same_value p_same_value (defScope s_same_value) := ⟨rfl, rfl, rfl, by decide +kernel, rfl, by decide +kernel, by decide +kernel⟩
abbrev s_found_implied : Stmt := topS 60
abbrev n_found_implied : List Str := ["_law_tables", "_law_facts", "_law_one", "_law_two", "_law_spots", "_law_table", "_law_there", "_law_met", "_law_turn", "_law_spot_here", "_law_goal"]
abbrev p_found_implied : List Str := ["_law_tables", "_law_facts", "_law_one", "_law_two"]
theorem sc_found_implied : FnScope n_found_implied p_found_implied (defScope s_found_implied) := ⟨rfl, rfl, rfl, by decide +kernel, rfl, by decide +kernel, by decide +kernel⟩
abbrev s_implied : Stmt := topS 61
abbrev n_implied : List Str := ["_law_tables", "_law_facts", "_law_line", "_law_words", "_law_ones", "_law_spots"]
abbrev p_implied : List Str := ["_law_tables", "_law_facts", "_law_line"]
theorem sc_implied : FnScope n_implied p_implied (defScope s_implied) := ⟨rfl, rfl, rfl, by decide +kernel, rfl, by decide +kernel, by decide +kernel⟩
abbrev s_linked_facts : Stmt := topS 62
abbrev n_linked_facts : List Str := ["_law_pen", "_law_tables", "_law_order", "_law_spots", "_law_lines", "_law_at", "_law_table", "_law_column", "_law_turn", "_law_spot_here", "_law_goals", "_law_k", "_law_goal", "_law_way", "_law_words"]
abbrev p_linked_facts : List Str := ["_law_pen", "_law_tables"]
theorem sc_linked_facts : FnScope n_linked_facts p_linked_facts (defScope s_linked_facts) := ⟨rfl, rfl, rfl, by decide +kernel, rfl, by decide +kernel, by decide +kernel⟩
abbrev s_some_of : Stmt := topS 63
abbrev n_some_of : List Str := ["_law_pen", "_law_items", "_law_many", "_law_rest", "_law_found", "_law_k"]
abbrev p_some_of : List Str := ["_law_pen", "_law_items", "_law_many"]
theorem sc_some_of : FnScope n_some_of p_some_of (defScope s_some_of) := ⟨rfl, rfl, rfl, by decide +kernel, rfl, by decide +kernel, by decide +kernel⟩
abbrev s_all_lines : Stmt := topS 64
abbrev n_all_lines : List Str := ["_law_tables", "_law_spots", "_law_found", "_law_name", "_law_columns_here", "_law_column", "_law_spot_here", "_law_two"]
abbrev p_all_lines : List Str := ["_law_tables"]
theorem sc_all_lines : FnScope n_all_lines p_all_lines (defScope s_all_lines) := ⟨rfl, rfl, rfl, by decide +kernel, rfl, by decide +kernel, by decide +kernel⟩
abbrev s_small_rows : Stmt := topS 65
abbrev n_small_rows : List Str := ["_law_pen", "_law_tables", "_law_found", "_law_name", "_law_columns_here", "_law_rows", "_law_k", "_law_column"]
abbrev p_small_rows : List Str := ["_law_pen", "_law_tables"]
theorem sc_small_rows : FnScope n_small_rows p_small_rows (defScope s_small_rows) := ⟨rfl, rfl, rfl, by decide +kernel, rfl, by decide +kernel, by decide +kernel⟩
abbrev s_linked_tables : Stmt := topS 66
abbrev n_linked_tables : List Str := ["_law_pen", "_law_names", "_law_k"]
abbrev p_linked_tables : List Str := ["_law_pen"]
theorem sc_linked_tables : FnScope n_linked_tables p_linked_tables (defScope s_linked_tables) := ⟨rfl, rfl, rfl, by decide +kernel, rfl, by decide +kernel, by decide +kernel⟩
abbrev s_hand_right : Stmt := topS 67
abbrev n_hand_right : List Str := ["_law_pen", "_law_a", "_law_b", "_law_c", "_law_d", "_law_k", "_law_m", "_law_schema", "_law_name", "_law_links", "_law_one", "_law_two", "_law_ones", "_law_asked", "_law_rows", "_law_lines", "_law_due", "_law_held"]
abbrev p_hand_right : List Str := ["_law_pen"]
theorem sc_hand_right : FnScope n_hand_right p_hand_right (defScope s_hand_right) := ⟨rfl, rfl, rfl, by decide +kernel, rfl, by decide +kernel, by decide +kernel⟩
abbrev s_law : Stmt := topS 68
abbrev n_law : List Str := ["_law_script", "_law_pen", "_law_turn", "_law_tables", "_law_lines", "_law_plain", "_law_facts", "_law_asked", "_law_implied_here", "_law_line", "_law_due", "_law_other", "_law_rows"]
abbrev p_law : List Str := ["_law_script"]
theorem sc_law : FnScope n_law p_law (defScope s_law) := ⟨rfl, rfl, rfl, by decide +kernel, rfl, by decide +kernel, by decide +kernel⟩
def k_RESERVED : List V := [.str "table", .str "index", .str "of", .str "in", .str "from", .str "at", .str "by", .str "keep", .str "first", .str "last", .str "all", .str "where", .str "until", .str "find", .str "get", .str "need", .str "each", .str "if", .str "else", .str "end", .str "put", .str "next", .str "and", .str "not", .str "is", .str "some", .str "before", .str "has", .str "missing", .str "none"]
def k_OF_TABLES : List V := [.str "single", .str "filled"]
def k_OF_COLUMNS : List V := [.str "unique", .str "sorted"]
/-- what the top has left -/
structure TX (K : PySem.W.Frag) (mg : Str → Option Value) where
  z_all : mg "all" = none
  z_len : mg "len" = none
  z_enumerate : mg "enumerate" = none
  z_any : mg "any" = none
  z_property : mg "property" = none
  z_list : mg "list" = none
  z_iter : mg "iter" = none
  z_tuple : mg "tuple" = none
  z_set : mg "set" = none
  z_int : mg "int" = none
  z_abs : mg "abs" = none
  z_sorted : mg "sorted" = none
  z_range : mg "range" = none
  z_min : mg "min" = none
  z_repr : mg "repr" = none
  c_LETTERS : ∃ t, mg "LETTERS" = some (.str "abcdefghijklmnopqrstuvwxyz" t)
  c_LONGEST_NAME : ∃ t, mg "LONGEST_NAME" = some (.int 12 t)
  a_RESERVED : Addr
  c_RESERVED : mg "RESERVED" = some (.ref a_RESERVED)
  v_RESERVED : ∃ (dd : Option Addr) (n : Nat) (sl : Array (Option Value)) (us : List Value), Vals k_RESERVED us ∧ K.lookup a_RESERVED = some ⟨.type "tuple", dd, .seq us.toArray n, sl⟩
  a_OF_TABLES : Addr
  c_OF_TABLES : mg "OF_TABLES" = some (.ref a_OF_TABLES)
  v_OF_TABLES : ∃ (dd : Option Addr) (n : Nat) (sl : Array (Option Value)) (us : List Value), Vals k_OF_TABLES us ∧ K.lookup a_OF_TABLES = some ⟨.type "tuple", dd, .seq us.toArray n, sl⟩
  a_OF_COLUMNS : Addr
  c_OF_COLUMNS : mg "OF_COLUMNS" = some (.ref a_OF_COLUMNS)
  v_OF_COLUMNS : ∃ (dd : Option Addr) (n : Nat) (sl : Array (Option Value)) (us : List Value), Vals k_OF_COLUMNS us ∧ K.lookup a_OF_COLUMNS = some ⟨.type "tuple", dd, .seq us.toArray n, sl⟩
  c_MOST_TABLES : ∃ t, mg "MOST_TABLES" = some (.int 4 t)
  c_MOST_COLUMNS : ∃ t, mg "MOST_COLUMNS" = some (.int 3 t)
  x_LookError : XC K mg "LookError" [.type "ValueError", .type "Exception", .type "BaseException", .type "object"]
  e_LookError : PySem.W.excIn K x_LookError.C [.type "ValueError", .type "Exception", .type "BaseException", .type "object"] "ValueError.__new__" = true
  x_BadFact : XC K mg "BadFact" [.ref x_LookError.C, .type "ValueError", .type "Exception", .type "BaseException", .type "object"]
  x_BadProgram : XC K mg "BadProgram" [.ref x_LookError.C, .type "ValueError", .type "Exception", .type "BaseException", .type "object"]
  x_OtherTables : XC K mg "OtherTables" [.ref x_LookError.C, .type "ValueError", .type "Exception", .type "BaseException", .type "object"]
  e_OtherTables : PySem.W.excIn K x_OtherTables.C [.type "ValueError", .type "Exception", .type "BaseException", .type "object"] "ValueError.__new__" = true
  x_NoName : XC K mg "NoName" [.ref x_LookError.C, .type "ValueError", .type "Exception", .type "BaseException", .type "object"]
  C_Facts : Addr
  g_Facts : mg "Facts" = some (.ref C_Facts)
  cl_Facts : Cls K C_Facts
  n_Facts__schema : NoAttr K C_Facts "_schema"
  n_Facts__facts : NoAttr K C_Facts "_facts"
  C_Schema : Addr
  g_Schema : mg "Schema" = some (.ref C_Schema)
  cl_Schema : Cls K C_Schema
  n_Schema__columns : NoAttr K C_Schema "_columns"
  n_Schema_tables : NoAttr K C_Schema "tables"
  a_wall : Addr
  fd_wall : FuncData
  F_wall : Fun K "_wall" "_wall" s_wall a_wall fd_wall
  b_wall : Binds K fd_wall p_wall []
  g_wall : mg "_wall" = some (.ref a_wall)
  a_BadFact_init : Addr
  fd_BadFact_init : FuncData
  F_BadFact_init : Fun K "__init__" "BadFact.__init__" s_BadFact_init a_BadFact_init fd_BadFact_init
  b_BadFact_init : Binds K fd_BadFact_init p_BadFact_init []
  i_BadFact_init : PySem.W.findIn K (.ref x_BadFact.C) "__init__" = some (some (.ref a_BadFact_init))
  t_BadFact_init : PySem.W.typeIn K (.ref a_BadFact_init) = some (.type "function")
  f_BadFact_init_index : PySem.W.findIn K (.ref x_BadFact.C) "index" = some none
  a_BadProgram_init : Addr
  fd_BadProgram_init : FuncData
  F_BadProgram_init : Fun K "__init__" "BadProgram.__init__" s_BadProgram_init a_BadProgram_init fd_BadProgram_init
  b_BadProgram_init : Binds K fd_BadProgram_init p_BadProgram_init []
  i_BadProgram_init : PySem.W.findIn K (.ref x_BadProgram.C) "__init__" = some (some (.ref a_BadProgram_init))
  t_BadProgram_init : PySem.W.typeIn K (.ref a_BadProgram_init) = some (.type "function")
  f_BadProgram_init_line : PySem.W.findIn K (.ref x_BadProgram.C) "line" = some none
  a_NoName_init : Addr
  fd_NoName_init : FuncData
  F_NoName_init : Fun K "__init__" "NoName.__init__" s_NoName_init a_NoName_init fd_NoName_init
  b_NoName_init : Binds K fd_NoName_init p_NoName_init []
  i_NoName_init : PySem.W.findIn K (.ref x_NoName.C) "__init__" = some (some (.ref a_NoName_init))
  t_NoName_init : PySem.W.typeIn K (.ref a_NoName_init) = some (.type "function")
  f_NoName_init_name : PySem.W.findIn K (.ref x_NoName.C) "name" = some none
  a_reached : Addr
  fd_reached : FuncData
  F_reached : Fun K "reached" "reached" s_reached a_reached fd_reached
  b_reached : Binds K fd_reached p_reached []
  g_reached : mg "reached" = some (.ref a_reached)
  a_lines_of : Addr
  fd_lines_of : FuncData
  F_lines_of : Fun K "lines_of" "lines_of" s_lines_of a_lines_of fd_lines_of
  b_lines_of : Binds K fd_lines_of p_lines_of []
  g_lines_of : mg "lines_of" = some (.ref a_lines_of)
  a_words_of : Addr
  fd_words_of : FuncData
  F_words_of : Fun K "words_of" "words_of" s_words_of a_words_of fd_words_of
  b_words_of : Binds K fd_words_of p_words_of []
  g_words_of : mg "words_of" = some (.ref a_words_of)
  a_is_name : Addr
  fd_is_name : FuncData
  F_is_name : Fun K "is_name" "is_name" s_is_name a_is_name fd_is_name
  b_is_name : Binds K fd_is_name p_is_name []
  c_is_name : Addr
  P_is_name : Addr
  t_is_name : fd_is_name.code = .ref c_is_name
  tb_is_name : PySem.W.tabIn K "is_name" = some (c_is_name, P_is_name)
  tn_is_name : K.lookup P_is_name = none
  g_is_name : mg "is_name" = some (.ref a_is_name)
  a_read_facts : Addr
  fd_read_facts : FuncData
  F_read_facts : Fun K "read_facts" "read_facts" s_read_facts a_read_facts fd_read_facts
  b_read_facts : Binds K fd_read_facts p_read_facts []
  g_read_facts : mg "read_facts" = some (.ref a_read_facts)
  a_read_fact : Addr
  fd_read_fact : FuncData
  F_read_fact : Fun K "read_fact" "read_fact" s_read_fact a_read_fact fd_read_fact
  b_read_fact : Binds K fd_read_fact p_read_fact []
  g_read_fact : mg "read_fact" = some (.ref a_read_fact)
  a_read_table : Addr
  fd_read_table : FuncData
  F_read_table : Fun K "read_table" "read_table" s_read_table a_read_table fd_read_table
  b_read_table : Binds K fd_read_table p_read_table []
  g_read_table : mg "read_table" = some (.ref a_read_table)
  a_read_column : Addr
  fd_read_column : FuncData
  F_read_column : Fun K "read_column" "read_column" s_read_column a_read_column fd_read_column
  b_read_column : Binds K fd_read_column p_read_column []
  g_read_column : mg "read_column" = some (.ref a_read_column)
  a_leads_back : Addr
  fd_leads_back : FuncData
  F_leads_back : Fun K "leads_back" "leads_back" s_leads_back a_leads_back fd_leads_back
  b_leads_back : Binds K fd_leads_back p_leads_back []
  c_leads_back : Addr
  P_leads_back : Addr
  t_leads_back : fd_leads_back.code = .ref c_leads_back
  tb_leads_back : PySem.W.tabIn K "leads_back" = some (c_leads_back, P_leads_back)
  tn_leads_back : K.lookup P_leads_back = none
  g_leads_back : mg "leads_back" = some (.ref a_leads_back)
  a_column_links : Addr
  fd_column_links : FuncData
  F_column_links : Fun K "column_links" "column_links" s_column_links a_column_links fd_column_links
  b_column_links : Binds K fd_column_links p_column_links []
  g_column_links : mg "column_links" = some (.ref a_column_links)
  a_table_links : Addr
  fd_table_links : FuncData
  F_table_links : Fun K "table_links" "table_links" s_table_links a_table_links fd_table_links
  b_table_links : Binds K fd_table_links p_table_links []
  g_table_links : mg "table_links" = some (.ref a_table_links)
  a_places_of : Addr
  fd_places_of : FuncData
  F_places_of : Fun K "places_of" "places_of" s_places_of a_places_of fd_places_of
  b_places_of : Binds K fd_places_of p_places_of []
  g_places_of : mg "places_of" = some (.ref a_places_of)
  a_follows : Addr
  fd_follows : FuncData
  F_follows : Fun K "follows" "follows" s_follows a_follows fd_follows
  b_follows : Binds K fd_follows p_follows []
  g_follows : mg "follows" = some (.ref a_follows)
  a_is_filled : Addr
  fd_is_filled : FuncData
  F_is_filled : Fun K "is_filled" "is_filled" s_is_filled a_is_filled fd_is_filled
  b_is_filled : Binds K fd_is_filled p_is_filled []
  c_is_filled : Addr
  P_is_filled : Addr
  t_is_filled : fd_is_filled.code = .ref c_is_filled
  tb_is_filled : PySem.W.tabIn K "is_filled" = some (c_is_filled, P_is_filled)
  tn_is_filled : K.lookup P_is_filled = none
  g_is_filled : mg "is_filled" = some (.ref a_is_filled)
  a_is_found : Addr
  fd_is_found : FuncData
  F_is_found : Fun K "is_found" "is_found" s_is_found a_is_found fd_is_found
  b_is_found : Binds K fd_is_found p_is_found []
  g_is_found : mg "is_found" = some (.ref a_is_found)
  a_turned_links : Addr
  fd_turned_links : FuncData
  F_turned_links : Fun K "turned_links" "turned_links" s_turned_links a_turned_links fd_turned_links
  b_turned_links : Binds K fd_turned_links p_turned_links []
  g_turned_links : mg "turned_links" = some (.ref a_turned_links)
  a_lone_tables : Addr
  fd_lone_tables : FuncData
  F_lone_tables : Fun K "lone_tables" "lone_tables" s_lone_tables a_lone_tables fd_lone_tables
  b_lone_tables : Binds K fd_lone_tables p_lone_tables []
  g_lone_tables : mg "lone_tables" = some (.ref a_lone_tables)
  a_is_constant : Addr
  fd_is_constant : FuncData
  F_is_constant : Fun K "is_constant" "is_constant" s_is_constant a_is_constant fd_is_constant
  b_is_constant : Binds K fd_is_constant p_is_constant []
  c_is_constant : Addr
  P_is_constant : Addr
  t_is_constant : fd_is_constant.code = .ref c_is_constant
  tb_is_constant : PySem.W.tabIn K "is_constant" = some (c_is_constant, P_is_constant)
  tn_is_constant : K.lookup P_is_constant = none
  g_is_constant : mg "is_constant" = some (.ref a_is_constant)
  a_Facts_init : Addr
  fd_Facts_init : FuncData
  F_Facts_init : Fun K "__init__" "Facts.__init__" s_Facts_init a_Facts_init fd_Facts_init
  b_Facts_init : Binds K fd_Facts_init p_Facts_init []
  mk_Facts : Mk K C_Facts a_Facts_init
  a_Facts_lines : Addr
  fd_Facts_lines : FuncData
  F_Facts_lines : Fun K "lines" "Facts.lines" s_Facts_lines a_Facts_lines fd_Facts_lines
  b_Facts_lines : Binds K fd_Facts_lines p_Facts_lines []
  pp_Facts_lines : Addr
  pr_Facts_lines : PropOf K C_Facts "lines" pp_Facts_lines a_Facts_lines
  a_Facts_iter : Addr
  fd_Facts_iter : FuncData
  F_Facts_iter : Fun K "__iter__" "Facts.__iter__" s_Facts_iter a_Facts_iter fd_Facts_iter
  b_Facts_iter : Binds K fd_Facts_iter p_Facts_iter []
  io_Facts_iter : Itr.ItOwn K C_Facts a_Facts_iter
  a_Facts_contains : Addr
  fd_Facts_contains : FuncData
  F_Facts_contains : Fun K "__contains__" "Facts.__contains__" s_Facts_contains a_Facts_contains fd_Facts_contains
  b_Facts_contains : Binds K fd_Facts_contains p_Facts_contains []
  ic_Facts_contains : Own.InC K C_Facts a_Facts_contains
  a_Facts_or : Addr
  fd_Facts_or : FuncData
  F_Facts_or : Fun K "__or__" "Facts.__or__" s_Facts_or a_Facts_or fd_Facts_or
  b_Facts_or : Binds K fd_Facts_or p_Facts_or []
  m_Facts_or : Meth K C_Facts "__or__" a_Facts_or
  a_Facts_broken : Addr
  fd_Facts_broken : FuncData
  F_Facts_broken : Fun K "broken" "Facts.broken" s_Facts_broken a_Facts_broken fd_Facts_broken
  b_Facts_broken : Binds K fd_Facts_broken p_Facts_broken []
  m_Facts_broken : Meth K C_Facts "broken" a_Facts_broken
  a_Facts_are_over : Addr
  fd_Facts_are_over : FuncData
  F_Facts_are_over : Fun K "are_over" "Facts.are_over" s_Facts_are_over a_Facts_are_over fd_Facts_are_over
  b_Facts_are_over : Binds K fd_Facts_are_over p_Facts_are_over []
  m_Facts_are_over : Meth K C_Facts "are_over" a_Facts_are_over
  a_Facts_as_read : Addr
  fd_Facts_as_read : FuncData
  F_Facts_as_read : Fun K "as_read" "Facts.as_read" s_Facts_as_read a_Facts_as_read fd_Facts_as_read
  b_Facts_as_read : Binds K fd_Facts_as_read p_Facts_as_read []
  m_Facts_as_read : Meth K C_Facts "as_read" a_Facts_as_read
  a_Facts_implies : Addr
  fd_Facts_implies : FuncData
  F_Facts_implies : Fun K "implies" "Facts.implies" s_Facts_implies a_Facts_implies fd_Facts_implies
  b_Facts_implies : Binds K fd_Facts_implies p_Facts_implies []
  m_Facts_implies : Meth K C_Facts "implies" a_Facts_implies
  a_Schema_init : Addr
  fd_Schema_init : FuncData
  F_Schema_init : Fun K "__init__" "Schema.__init__" s_Schema_init a_Schema_init fd_Schema_init
  b_Schema_init : Binds K fd_Schema_init p_Schema_init []
  mk_Schema : Mk K C_Schema a_Schema_init
  a_Schema_columns : Addr
  fd_Schema_columns : FuncData
  F_Schema_columns : Fun K "columns" "Schema.columns" s_Schema_columns a_Schema_columns fd_Schema_columns
  b_Schema_columns : Binds K fd_Schema_columns p_Schema_columns []
  m_Schema_columns : Meth K C_Schema "columns" a_Schema_columns
  a_Schema_fits : Addr
  fd_Schema_fits : FuncData
  F_Schema_fits : Fun K "fits" "Schema.fits" s_Schema_fits a_Schema_fits fd_Schema_fits
  b_Schema_fits : Binds K fd_Schema_fits p_Schema_fits []
  m_Schema_fits : Meth K C_Schema "fits" a_Schema_fits
  a_Schema_check : Addr
  fd_Schema_check : FuncData
  F_Schema_check : Fun K "check" "Schema.check" s_Schema_check a_Schema_check fd_Schema_check
  b_Schema_check : Binds K fd_Schema_check p_Schema_check []
  m_Schema_check : Meth K C_Schema "check" a_Schema_check
  a_declared_tables : Addr
  fd_declared_tables : FuncData
  F_declared_tables : Fun K "declared_tables" "declared_tables" s_declared_tables a_declared_tables fd_declared_tables
  b_declared_tables : Binds K fd_declared_tables p_declared_tables []
  g_declared_tables : mg "declared_tables" = some (.ref a_declared_tables)
  a_is_table_line : Addr
  fd_is_table_line : FuncData
  F_is_table_line : Fun K "is_table_line" "is_table_line" s_is_table_line a_is_table_line fd_is_table_line
  b_is_table_line : Binds K fd_is_table_line p_is_table_line []
  c_is_table_line : Addr
  P_is_table_line : Addr
  t_is_table_line : fd_is_table_line.code = .ref c_is_table_line
  tb_is_table_line : PySem.W.tabIn K "is_table_line" = some (c_is_table_line, P_is_table_line)
  tn_is_table_line : K.lookup P_is_table_line = none
  g_is_table_line : mg "is_table_line" = some (.ref a_is_table_line)
  a_begun_pen : Addr
  fd_begun_pen : FuncData
  F_begun_pen : Fun K "_law_begun_pen" "_law_begun_pen" s_begun_pen a_begun_pen fd_begun_pen
  b_begun_pen : Binds K fd_begun_pen p_begun_pen []
  g_begun_pen : mg "_law_begun_pen" = some (.ref a_begun_pen)
  a_draw : Addr
  fd_draw : FuncData
  F_draw : Fun K "_law_draw" "_law_draw" s_draw a_draw fd_draw
  b_draw : Binds K fd_draw p_draw []
  g_draw : mg "_law_draw" = some (.ref a_draw)
  a_pick : Addr
  fd_pick : FuncData
  F_pick : Fun K "_law_pick" "_law_pick" s_pick a_pick fd_pick
  b_pick : Binds K fd_pick p_pick []
  g_pick : mg "_law_pick" = some (.ref a_pick)
  a_shuffled : Addr
  fd_shuffled : FuncData
  F_shuffled : Fun K "_law_shuffled" "_law_shuffled" s_shuffled a_shuffled fd_shuffled
  b_shuffled : Binds K fd_shuffled p_shuffled []
  g_shuffled : mg "_law_shuffled" = some (.ref a_shuffled)
  a_new_names : Addr
  fd_new_names : FuncData
  F_new_names : Fun K "_law_new_names" "_law_new_names" s_new_names a_new_names fd_new_names
  b_new_names : Binds K fd_new_names p_new_names []
  g_new_names : mg "_law_new_names" = some (.ref a_new_names)
  a_columns : Addr
  fd_columns : FuncData
  F_columns : Fun K "_law_columns" "_law_columns" s_columns a_columns fd_columns
  b_columns : Binds K fd_columns p_columns []
  g_columns : mg "_law_columns" = some (.ref a_columns)
  a_keeps : Addr
  fd_keeps : FuncData
  F_keeps : Fun K "_law_keeps" "_law_keeps" s_keeps a_keeps fd_keeps
  b_keeps : Binds K fd_keeps p_keeps []
  g_keeps : mg "_law_keeps" = some (.ref a_keeps)
  a_keeps_all : Addr
  fd_keeps_all : FuncData
  F_keeps_all : Fun K "_law_keeps_all" "_law_keeps_all" s_keeps_all a_keeps_all fd_keeps_all
  b_keeps_all : Binds K fd_keeps_all p_keeps_all []
  g_keeps_all : mg "_law_keeps_all" = some (.ref a_keeps_all)
  a_schema_text : Addr
  fd_schema_text : FuncData
  F_schema_text : Fun K "_law_schema_text" "_law_schema_text" s_schema_text a_schema_text fd_schema_text
  b_schema_text : Binds K fd_schema_text p_schema_text []
  g_schema_text : mg "_law_schema_text" = some (.ref a_schema_text)
  a_spot : Addr
  fd_spot : FuncData
  F_spot : Fun K "_law_spot" "_law_spot" s_spot a_spot fd_spot
  b_spot : Binds K fd_spot p_spot []
  g_spot : mg "_law_spot" = some (.ref a_spot)
  a_each_once : Addr
  fd_each_once : FuncData
  F_each_once : Fun K "_law_each_once" "_law_each_once" s_each_once a_each_once fd_each_once
  b_each_once : Binds K fd_each_once p_each_once []
  g_each_once : mg "_law_each_once" = some (.ref a_each_once)
  a_fact_tables : Addr
  fd_fact_tables : FuncData
  F_fact_tables : Fun K "_law_fact_tables" "_law_fact_tables" s_fact_tables a_fact_tables fd_fact_tables
  b_fact_tables : Binds K fd_fact_tables p_fact_tables []
  g_fact_tables : mg "_law_fact_tables" = some (.ref a_fact_tables)
  a_led_from : Addr
  fd_led_from : FuncData
  F_led_from : Fun K "_law_led_from" "_law_led_from" s_led_from a_led_from fd_led_from
  b_led_from : Binds K fd_led_from p_led_from []
  g_led_from : mg "_law_led_from" = some (.ref a_led_from)
  a_filled : Addr
  fd_filled : FuncData
  F_filled : Fun K "_law_filled" "_law_filled" s_filled a_filled fd_filled
  b_filled : Binds K fd_filled p_filled []
  g_filled : mg "_law_filled" = some (.ref a_filled)
  a_found_pairs : Addr
  fd_found_pairs : FuncData
  F_found_pairs : Fun K "_law_found_pairs" "_law_found_pairs" s_found_pairs a_found_pairs fd_found_pairs
  b_found_pairs : Binds K fd_found_pairs p_found_pairs []
  g_found_pairs : mg "_law_found_pairs" = some (.ref a_found_pairs)
  a_fixed : Addr
  fd_fixed : FuncData
  F_fixed : Fun K "_law_fixed" "_law_fixed" s_fixed a_fixed fd_fixed
  b_fixed : Binds K fd_fixed p_fixed []
  g_fixed : mg "_law_fixed" = some (.ref a_fixed)
  a_same_value : Addr
  fd_same_value : FuncData
  F_same_value : Fun K "_law_same_value" "_law_same_value" s_same_value a_same_value fd_same_value
  b_same_value : Binds K fd_same_value p_same_value []
  g_same_value : mg "_law_same_value" = some (.ref a_same_value)
  a_found_implied : Addr
  fd_found_implied : FuncData
  F_found_implied : Fun K "_law_found_implied" "_law_found_implied" s_found_implied a_found_implied fd_found_implied
  b_found_implied : Binds K fd_found_implied p_found_implied []
  g_found_implied : mg "_law_found_implied" = some (.ref a_found_implied)
  a_implied : Addr
  fd_implied : FuncData
  F_implied : Fun K "_law_implied" "_law_implied" s_implied a_implied fd_implied
  b_implied : Binds K fd_implied p_implied []
  g_implied : mg "_law_implied" = some (.ref a_implied)
  a_linked_facts : Addr
  fd_linked_facts : FuncData
  F_linked_facts : Fun K "_law_linked_facts" "_law_linked_facts" s_linked_facts a_linked_facts fd_linked_facts
  b_linked_facts : Binds K fd_linked_facts p_linked_facts []
  g_linked_facts : mg "_law_linked_facts" = some (.ref a_linked_facts)
  a_some_of : Addr
  fd_some_of : FuncData
  F_some_of : Fun K "_law_some_of" "_law_some_of" s_some_of a_some_of fd_some_of
  b_some_of : Binds K fd_some_of p_some_of []
  g_some_of : mg "_law_some_of" = some (.ref a_some_of)
  a_all_lines : Addr
  fd_all_lines : FuncData
  F_all_lines : Fun K "_law_all_lines" "_law_all_lines" s_all_lines a_all_lines fd_all_lines
  b_all_lines : Binds K fd_all_lines p_all_lines []
  g_all_lines : mg "_law_all_lines" = some (.ref a_all_lines)
  a_small_rows : Addr
  fd_small_rows : FuncData
  F_small_rows : Fun K "_law_small_rows" "_law_small_rows" s_small_rows a_small_rows fd_small_rows
  b_small_rows : Binds K fd_small_rows p_small_rows []
  g_small_rows : mg "_law_small_rows" = some (.ref a_small_rows)
  a_linked_tables : Addr
  fd_linked_tables : FuncData
  F_linked_tables : Fun K "_law_linked_tables" "_law_linked_tables" s_linked_tables a_linked_tables fd_linked_tables
  b_linked_tables : Binds K fd_linked_tables p_linked_tables []
  g_linked_tables : mg "_law_linked_tables" = some (.ref a_linked_tables)
  a_hand_right : Addr
  fd_hand_right : FuncData
  F_hand_right : Fun K "_law_hand_right" "_law_hand_right" s_hand_right a_hand_right fd_hand_right
  b_hand_right : Binds K fd_hand_right p_hand_right []
  g_hand_right : mg "_law_hand_right" = some (.ref a_hand_right)
  a_law : Addr
  fd_law : FuncData
  F_law : Fun K "law" "law" s_law a_law fd_law
  b_law : Binds K fd_law p_law []
  g_law : mg "law" = some (.ref a_law)
/-- the tables of code objects, over the base -/
structure TB {K : PySem.W.Frag} {mg : Str → Option Value} (T : TX K mg) (base : Heap) : Prop where
  b_is_name : LamX.TabB base mg T.c_is_name T.P_is_name
  b_leads_back : LamX.TabB base mg T.c_leads_back T.P_leads_back
  b_is_filled : LamX.TabB base mg T.c_is_filled T.P_is_filled
  b_is_constant : LamX.TabB base mg T.c_is_constant T.P_is_constant
  b_is_table_line : LamX.TabB base mg T.c_is_table_line T.P_is_table_line
def tabsOf {K : PySem.W.Frag} {mg : Str → Option Value} (T : TX K mg) : List Addr := [T.P_is_name, T.P_leads_back, T.P_is_filled, T.P_is_constant, T.P_is_table_line]

end L2.Pf
set_option maxHeartbeats 2000000
namespace L2.Pf
open PySem PySem.Spec PyProof.Rows L2.Ev L2.Tpd L2.Seti L2.Gq L2.Enf L2.Sett L2.Itr L2.Dls L2.Own
section
variable {P : Program} {w : World} {K : PySem.W.Frag} {mg : Str → Option Value} {base : Heap}
/-! ### words.py -/
/-- the lines of a text -/
def linesOf (x : Str) : List Str := if x = ("" : Str) then [] else Txt.split x "\n"
def sp_lines_of : Sp := fun vs H Q _ => ∃ x : Str, vs = [.str x] ∧ x.length ≤ 10000 ∧ ∀ p H', H p = none → Same H H' → H' p = some (.lst ((linesOf x).map V.str)) → Q (.ref p) H'
theorem ok_lines_of (T : TX K mg) (B : TB T base) : FnOk P w K mg base CX0 1 T.a_lines_of T.fd_lines_of p_lines_of sp_lines_of := by
  refine T.F_lines_of.ok sc_lines_of (fun vs H Q E h => ?_) (fun cdv A outer s H vs Q E hr h => ?_)
  · obtain ⟨x, rfl, _⟩ := h
    rfl
  · obtain ⟨x, rfl, hl, k⟩ := h
    refine ⟨_, (pss_cons (ps_if (pt_cmpR op_eq (pv 0) pe_str (nomark _)) (pss_one (ps_ret (pe_lstS pa_nil))) pss_nil)
  (pss_one (ps_ret (pe_split (pv 0) pe_str)))), ?_⟩
    refine ⟨_, rfl, rfl, _, rfl, ?_⟩
    by_cases e : V.str x = V.str ("" : Str)
    · rw [decide_eq_true e]
      have e2 : x = ("" : Str) := by cases e; rfl
      have k2 := k
      unfold linesOf at k2
      rw [if_pos e2] at k2
      exact iteT ⟨Nat.zero_le _, k2⟩
    · rw [decide_eq_false e]
      have e2 : x ≠ ("" : Str) := fun z => e (by rw [z])
      have k2 := k
      unfold linesOf at k2
      rw [if_neg e2] at k2
      refine iteF ⟨_, rfl, ⟨_, rfl⟩, x, _, rfl, rfl, by decide, ?_, fun p hp => k2 p _ hp (Same.new (Same.refl H) hp) upd_same⟩
      exact Nat.le_trans (Nat.add_le_add_right hl 2) (by show 10000 + 2 ≤ sizeLine; decide)
def sp_words_of : Sp := fun vs H Q _ => ∃ x : Str, vs = [.str x] ∧ x.length ≤ 10000 ∧ ∀ p H', H p = none → Same H H' → H' p = some (.lst ((Txt.split x " ").map V.str)) → Q (.ref p) H'
theorem ok_words_of (T : TX K mg) (B : TB T base) : FnOk P w K mg base CX0 1 T.a_words_of T.fd_words_of p_words_of sp_words_of := by
  refine T.F_words_of.ok sc_words_of (fun vs H Q E h => ?_) (fun cdv A outer s H vs Q E hr h => ?_)
  · obtain ⟨x, rfl, _⟩ := h
    rfl
  · obtain ⟨x, rfl, hl, k⟩ := h
    refine ⟨_, (pss_one (ps_ret (pe_split (pv 0) pe_str))), ?_⟩
    refine ⟨_, rfl, ⟨_, rfl⟩, x, _, rfl, rfl, by decide, ?_, fun p hp => k p _ hp (Same.new (Same.refl H) hp) upd_same⟩
    exact Nat.le_trans (Nat.add_le_add_right hl 2) (by show 10000 + 2 ≤ sizeLine; decide)
/-- a word that may be a name -/
def inLetters (x : Str) : Bool := !(Builtin.Str.occurrences ("abcdefghijklmnopqrstuvwxyz" : Str) x 0 ("abcdefghijklmnopqrstuvwxyz" : Str).length 1).isEmpty
def lettersAll (x : Str) : Bool := (List.range x.cps.size).all fun i => inLetters ⟨#[x.cps.getD i 0]⟩
theorem const_tup {H : Hp} {a : Addr} {xs : List V} (h : ∃ (dd : Option Addr) (n : Nat) (sl : Array (Option Value)) (us : List Value), Vals xs us ∧ K.lookup a = some ⟨.type "tuple", dd, .seq us.toArray n, sl⟩) (hl : xs.length ≤ 1000) : SqT K H a xs := by
  obtain ⟨dd, n, sl, us, r, e⟩ := h
  refine .inr ⟨_, us.toArray, n, e, rfl, rfl, ?_, by simpa using r⟩
  have z := r.length
  rw [List.size_toArray, ← z]
  exact Nat.le_of_lt (small1000 hl)
def isName (x : Str) : Bool := !(decide (x.length < 1) || decide (12 < x.length) || inV (.str x) k_RESERVED) && lettersAll x
def sp_is_name (P : Addr) : Sp := fun vs H Q _ => ∃ x : Str, vs = [.str x] ∧ x.length ≤ 10000 ∧ H P = some (TabX P) ∧ Q (.bl (isName x)) H
theorem ok_is_name (T : TX K mg) (B : TB T base) : FnOk P w K mg base CX0 2 T.a_is_name T.fd_is_name p_is_name (sp_is_name T.P_is_name) := by
  refine Fun.okC T.F_is_name T.t_is_name sc_is_name (fun vs H Q E h => ?_) (fun A outer s H vs Q E hr h => ?_)
  · obtain ⟨x, rfl, _⟩ := h
    rfl
  · obtain ⟨x, rfl, hl, hP, k⟩ := h
    refine ⟨_, (pss_join (ps_if (PW.pt (pw_or (pt_cmpR op_lt (pe_callB call_len_str (by rfl) T.z_len (by decide +kernel) (pa_cons (pv 0) pa_nil)) pe_int (nomark _)) (pw_or (pt_cmpR op_gt (pe_callB call_len_str (by rfl) T.z_len (by decide +kernel) (pa_cons (pv 0) pa_nil)) (pe_globI rfl T.c_LONGEST_NAME) (nomark _)) (pw_or1 (pt_cmpR op_in_seq (pv 0) (pe_glob (v := .ref T.a_RESERVED) rfl T.c_RESERVED rfl) (by rfl)))))) (pss_one (ps_ret pe_bl)) pss_nil)
  (pss_one (ps_ret (pe_allQ (own := [("letter", 1)]) (gt := gName 1) (tt := tYes) hr (by rfl) T.z_all (by decide +kernel) B.b_is_name rfl ⟨blkOk_by (own := [("letter", 1)]) (N := n_is_name) (sc := defScope s_is_name) (by decide +kernel), rfl, by decide +kernel, rfl⟩ sc_is_name.nd (pi_str (pv 0)) (fun _ _ _ _ _ _ _ hr => (pg_name (i := 1) sc_is_name.nd rfl (Or.inl rfl))) (fun _ _ _ _ _ _ _ hr => pts_nil) (fun _ _ _ _ _ _ _ hr => (pe_cmpR op_in_str (pv 1) (pe_globS rfl T.c_LETTERS) (by rfl))))))), ?_⟩
    have hz : x.length ≤ sizeLine := Nat.le_trans hl (by decide)
    have hT : SqT K H T.a_RESERVED k_RESERVED := const_tup T.v_RESERVED (by decide)
    refine ⟨fun σ' H' => σ' = [some (.str x), none] ∧ H' = H ∧ (decide (x.length < 1) || decide (12 < x.length) || inV (.str x) k_RESERVED) = false, ⟨_, rfl, x, rfl, hz, _, _, rfl, rfl, _, rfl, ?_⟩, ?_⟩
    · by_cases h1 : ((x.length : Nat) : Int) < 1
      · rw [decide_eq_true h1]
        have e : isName x = false := by
          unfold isName
          rw [decide_eq_true (show x.length < 1 by omega)]; rfl
        rw [e] at k
        exact iteT (iteT k)
      · rw [decide_eq_false h1]
        refine iteF ⟨_, rfl, x, rfl, hz, _, _, rfl, rfl, _, rfl, ?_⟩
        by_cases h2 : (12 : Int) < ((x.length : Nat) : Int)
        · rw [decide_eq_true h2]
          have e : isName x = false := by
            unfold isName
            rw [decide_eq_true (show 12 < x.length by omega), Bool.or_true]; rfl
          rw [e] at k
          exact iteT (iteT k)
        · rw [decide_eq_false h2]
          refine iteF ⟨_, rfl, _, k_RESERVED, rfl, .inr hT, rfl, by decide, _, rfl, ?_⟩
          cases h3 : inV (.str x) k_RESERVED with
          | true =>
            have e : isName x = false := by
              unfold isName
              rw [h3, Bool.or_true]; rfl
            rw [e] at k
            exact iteT k
          | false =>
            exact iteF ⟨rfl, rfl, by rw [decide_eq_false (show ¬ x.length < 1 by omega), decide_eq_false (show ¬ 12 < x.length by omega)]; rfl⟩
    · rintro σ' H' ⟨rfl, rfl, hc⟩
      refine ⟨_, rfl, x, rfl, hP, q_turns (n := x.cps.size) (fun i => inLetters ⟨#[x.cps.getD i 0]⟩) (fun _ H2 => H2 = H') rfl (fun _ _ => Nat.le_refl _) (fun i _ hi _ => hi) (fun i v H2 H3 Qc hi e y hq => ?_) (fun H2 e hf => ?_) (fun i H2 hi e hf hb => ?_)⟩
      · subst e
        obtain ⟨eH, c, ec, ev⟩ := y
        subst ev eH
        have e1 : x.cps.getD i 0 = c := by
          rw [Array.getD_eq_getD_getElem?, ec]; rfl
        have hq := hq H3 rfl
        rw [e1] at hq
        exact ⟨rfl, _, rfl, _, _, rfl, rfl, hq⟩
      · subst e
        have e : isName x = true := by
          unfold isName
          rw [hc]
          exact all_answer hf
        rw [e] at k
        exact k
      · subst e
        have e : isName x = false := by
          unfold isName
          rw [hc]
          exact all_not hi hf
        rw [e] at k
        exact k
end
end L2.Pf
set_option maxHeartbeats 2000000
namespace L2.Pf
open PySem PySem.Spec PyProof.Rows L2.Ev L2.Tpd L2.Seti L2.Gq L2.Enf L2.Sett L2.Itr L2.Dls L2.Own
section
variable {P : Program} {w : World} {K : PySem.W.Frag} {mg : Str → Option Value} {base : Heap}
theorem cut_from (xs : List V) {z : Int} {k : Nat} (e : z = (k : Int)) : cutV xs (some z) none = xs.drop k := by
  subst e
  unfold cutV
  rw [HT.sIx_none, HT.sIx_nat]
  by_cases h : k ≤ xs.length
  · rw [Nat.min_eq_left h, List.take_of_length_le (by rw [List.length_drop]; omega)]
  · rw [Nat.min_eq_right (by omega), List.drop_of_length_le (Nat.le_refl _), List.drop_of_length_le (by omega), List.take_nil]
theorem atI_nat {xs : List V} {k : Nat} {v : V} (h : xs[k]? = some v) : atI xs (k : Int) = some v := by
  have hk := (List.getElem?_eq_some_iff.mp h).1
  unfold atI ixN
  rw [if_pos (by omega), if_pos (by omega)]
  show xs[((k : Nat) : Int).toNat]? = _
  rw [Int.toNat_natCast]; exact h
/-- a line's words that declare a table -/
def isTableLine (xs : List Str) : Bool :=
  !(!decide (xs.getD 0 Str.empty = ("table" : Str)) || decide (xs.length < 3) || decide (5 < xs.length)) && ((List.range (xs.drop 1).length).all fun i => isName ((xs.drop 1).getD i Str.empty)) && decide (met (xs.drop 2) (xs.drop 2).length = (xs.drop 2).length)
def sp_is_table_line (K : PySem.W.Frag) (P1 P2 : Addr) : Sp := fun vs H Q _ => ∃ (l : Addr) (xs : List Str), vs = [.ref l] ∧ SqL K H l (xs.map V.str) ∧ xs ≠ [] ∧ xs.length ≤ 10000 ∧ (∀ x ∈ xs, x.length ≤ 10000) ∧ H P1 = some (TabX P1) ∧ H P2 = some (TabX P2) ∧
  ∀ H', Same H H' → Q (.bl (isTableLine xs)) H'
theorem ok_is_table_line (T : TX K mg) (B : TB T base) : FnOk P w K mg base CX0 4 T.a_is_table_line T.fd_is_table_line p_is_table_line (sp_is_table_line K T.P_is_name T.P_is_table_line) := by
  refine Fun.okC T.F_is_table_line T.t_is_table_line sc_is_table_line (fun vs H Q E h => ?_) (fun A outer s H vs Q E hr h => ?_)
  · obtain ⟨l, xs, rfl, _⟩ := h
    rfl
  · obtain ⟨l, xs, rfl, hS, hne, hlen, hx, hP1, hP2, k⟩ := h
    refine ⟨_, (pss_join (ps_if (PW.pt (pw_or (pt_cmpR op_ne (pe_ix ix_list (pv 0) pe_int (fun _ _ => rfl)) pe_str (nomark _)) (pw_or (pt_cmpR op_lt (pe_callB call_len_seq (by rfl) T.z_len (by decide +kernel) (pa_cons (pv 0) pa_nil)) pe_int (nomark _)) (pw_or1 (pt_cmpR op_gt (pe_callB call_len_seq (by rfl) T.z_len (by decide +kernel) (pa_cons (pv 0) pa_nil)) (pe_op op_add pe_int (pe_globI rfl T.c_MOST_COLUMNS)) (nomark _)))))) (pss_one (ps_ret pe_bl)) pss_nil)
  (pss_cons (ps_set (i := 1) sc_is_table_line.nd rfl (Or.inl rfl) (pe_slice (sl_listS (K := K)) (pv 0) (po_some pe_int) po_none))
  (pss_one (ps_ret (pe_and (pe_allQ (own := [("word", 2)]) (gt := gName 2) (tt := tYes) hr (by rfl) T.z_all (by decide +kernel) B.b_is_table_line rfl ⟨blkOk_by (own := [("word", 2)]) (N := n_is_table_line) (sc := defScope s_is_table_line) (by decide +kernel), rfl, by decide +kernel, rfl⟩ sc_is_table_line.nd (pi_list (pe_slice (sl_listS (K := K)) (pv 0) (po_some pe_int) po_none)) (fun _ _ _ _ _ _ _ hr => (pg_name (i := 2) sc_is_table_line.nd rfl (Or.inl rfl))) (fun _ _ _ _ _ _ _ hr => pts_nil) (fun _ _ _ _ _ _ _ hr => (pe_call (ok_is_name T B) (hr.mono (by decide)) rfl T.g_is_name T.F_is_name.kp T.b_is_name .nil pass0 (pa_cons (pv 2) pa_nil)))) (pe_one (pe_cmpR op_eq (pe_lenSetT rfl (by rfl) T.z_len (by rfl) T.z_set (pv 1)) (pe_callB call_len_seq (by rfl) T.z_len (by decide +kernel) (pa_cons (pv 1) pa_nil)) (nomark _)))))))), ?_⟩
    obtain ⟨y, ys, rfl⟩ : ∃ y ys, xs = y :: ys := by
      cases xs with
      | nil => exact absurd rfl hne
      | cons y ys => exact ⟨y, ys, rfl⟩
    generalize hxs : y :: ys = xs at *
    have hy : xs[0]? = some y := by rw [← hxs]; rfl
    have hgd : xs.getD 0 Str.empty = y := by rw [← hxs]; rfl
    have hml : (xs.map V.str).length = xs.length := List.length_map ..
    have no : ∀ b : Bool, (!decide (y = ("table" : Str)) || decide (xs.length < 3) || decide (5 < xs.length)) = true → isTableLine xs = false := fun _ e => by
      unfold isTableLine
      rw [hgd, e]; rfl
    refine ⟨fun σ' H' => σ' = [some (.ref l), none, none] ∧ H' = H ∧ (!decide (y = ("table" : Str)) || decide (xs.length < 3) || decide (5 < xs.length)) = false,
      ⟨_, rfl, l, _, 0, .str y, rfl, rfl, hS, atI_nat (k := 0) (by rw [List.getElem?_map, hy]; rfl), rfl, _, rfl, ?_⟩, ?_⟩
    · by_cases h1 : V.str y = V.str ("table" : Str)
      · have e1 : y = ("table" : Str) := by cases h1; rfl
        rw [decide_eq_true h1]
        refine iteF ⟨_, rfl, l, _, rfl, .inl hS, _, _, rfl, rfl, _, rfl, ?_⟩
        rw [hml]
        by_cases h2 : ((xs.length : Nat) : Int) < 3
        · rw [decide_eq_true h2]
          refine iteT (iteT ?_)
          have z := k H (Same.refl H)
          rw [no true (by rw [decide_eq_true (show xs.length < 3 by omega)]; simp)] at z
          exact z
        · rw [decide_eq_false h2]
          refine iteF ⟨_, rfl, l, _, rfl, .inl hS, _, _, rfl, rfl, _, _, rfl, rfl, _, rfl, ?_⟩
          rw [hml]
          by_cases h3 : (2 + 3 : Int) < ((xs.length : Nat) : Int)
          · rw [decide_eq_true h3]
            refine iteT ?_
            have z := k H (Same.refl H)
            rw [no true (by rw [decide_eq_true (show 5 < xs.length by omega)]; simp)] at z
            exact z
          · rw [decide_eq_false h3]
            exact iteF ⟨rfl, rfl, by rw [decide_eq_true e1, decide_eq_false (show ¬ xs.length < 3 by omega), decide_eq_false (show ¬ 5 < xs.length by omega)]; rfl⟩
      · have e1 : ¬ y = ("table" : Str) := fun e => h1 (by rw [e])
        rw [decide_eq_false h1]
        refine iteT (iteT ?_)
        have z := k H (Same.refl H)
        rw [no true (by rw [decide_eq_false e1]; simp)] at z
        exact z
    · rintro σ' H' ⟨rfl, rfl, hc⟩
      refine ⟨_, rfl, _, rfl, l, _, rfl, hS, fun p H2 hp s2 e2 => ?_⟩
      have ed : cutV (List.map V.str xs) (some 2) none = (xs.drop 2).map V.str := by rw [cut_from _ (z := 2) (k := 2) rfl, List.map_drop]
      have ec : cutV (List.map V.str xs) (some 1) none = (xs.drop 1).map V.str := by rw [cut_from _ (z := 1) (k := 1) rfl, List.map_drop]
      rw [ed] at e2
      have hS2 := s2.seq hS
      refine ⟨_, rfl, _, rfl, l, _, rfl, hS2, fun q H3 hq s3 e3 => ⟨q, rfl, ⟨_, SqL.of e3⟩, s3 _ _ (s2 _ _ hP2), ?_⟩⟩
      rw [ec] at e3
      have s13 := s2.trans s3
      have e23 := s3 _ _ e2
      have fin : ∀ b, isTableLine xs = b → Q (.bl b) H3 := fun b e => by
        rw [← e]; exact k H3 s13
      have one : isTableLine xs = (((List.range (xs.drop 1).length).all fun i => isName ((xs.drop 1).getD i Str.empty)) && decide (met (xs.drop 2) (xs.drop 2).length = (xs.drop 2).length)) := by
        unfold isTableLine
        rw [hgd, hc]; rfl
      refine q_turns (n := (xs.drop 1).length) (fun i => isName ((xs.drop 1).getD i Str.empty)) (fun _ H4 => H4 = H3) rfl (fun H4 e => ?_) (fun i H4 hi e => ?_) (fun i v H4 H5 Qc hi e y hq => ?_) (fun H4 e hf => ?_) (fun i H4 hi e hf hb => ?_)
      · subst e
        exact ⟨_, SqL.of e3, by rw [List.length_map]; exact Nat.le_refl _⟩
      · subst e
        exact ⟨_, V.str ((xs.drop 1)[i]), SqL.of e3, by rw [List.getElem?_map, List.getElem?_eq_getElem hi]; rfl⟩
      · subst e
        obtain ⟨eH, ev⟩ := y
        have ev := ev _ (SqL.of e3)
        have eg : (xs.drop 1).getD i Str.empty = (xs.drop 1)[i] := by rw [List.getD_eq_getElem?_getD, List.getElem?_eq_getElem hi]; rfl
        rw [List.getElem?_map, List.getElem?_eq_getElem hi] at ev
        cases ev
        subst eH
        have hm : (xs.drop 1)[i] ∈ xs := List.mem_of_mem_drop (List.getElem_mem hi)
        have hq := hq _ rfl
        rw [eg] at hq
        exact ⟨rfl, _, rfl, _, rfl, hx _ hm, s13 _ _ hP1, hq⟩
      · subst e
        refine ⟨_, rfl, iteT ⟨_, rfl, p, xs.drop 2, rfl, SqL.of e23, ?_, _, rfl, p, _, rfl, .inl (SqL.of e23), rfl, ?_⟩⟩
        · rw [List.length_drop]
          have : scanBound = 4096 := rfl
          simp only [Bool.or_eq_false_iff, decide_eq_false_iff_not] at hc
          omega
        · refine fin _ ?_
          rw [one, all_answer hf, Bool.true_and]
          by_cases h : met (xs.drop 2) (xs.drop 2).length = (xs.drop 2).length
          · rw [decide_eq_true h, decide_eq_true (by rw [List.length_map, h])]
          · rw [decide_eq_false h, decide_eq_false]
            intro z
            rw [List.length_map] at z
            have z2 := V.int.inj z
            omega
      · subst e
        refine ⟨_, rfl, iteF (fin _ ?_)⟩
        rw [one, all_not hi hf]; rfl
end
end L2.Pf
set_option maxHeartbeats 2000000
namespace L2.Pf
open PySem PySem.Spec PyProof.Rows L2.Ev L2.Tpd L2.Seti L2.Gq L2.Enf L2.Sett L2.Itr L2.Dls L2.Own
section
variable {P : Program} {w : World} {K : PySem.W.Frag} {mg : Str → Option Value} {base : Heap}
/-- the table that a line declares -/
def tabOf (line : Str) : Str × List Str := ((Txt.split line " ").getD 1 Str.empty, (Txt.split line " ").drop 2)
/-- the columns by the table, as the dict holds them -/
def ColsAt (H : Hp) : List (Key × V) → List (Str × List Str) → Prop := Paired fun kv t => kv.1 = .inr t.1 ∧ ∃ q, kv.2 = .ref q ∧ TupN H q (t.2.map V.str)
theorem ColsAt.keep {H H' : Hp} {kvs : List (Key × V)} {ts : List (Str × List Str)} (h : ColsAt H kvs ts) (k : ∀ q o xs, H q = some (.frz o (.tup xs)) → H' q = some (.frz o (.tup xs))) : ColsAt H' kvs ts :=
  Paired.mapP h fun _ _ ⟨e, q, e2, e3⟩ => ⟨e, q, e2, e3.keep k⟩
theorem paired_snoc {α β : Type} {F : α → β → Prop} : ∀ {l : List α} {r : List β} {a : α} {b : β}, Paired F l r → F a b → Paired F (l ++ [a]) (r ++ [b])
  | _, _, _, _, .nil, f => .cons f .nil
  | _, _, _, _, .cons g t, f => .cons g (paired_snoc t f)
theorem ColsAt.no {H : Hp} {kvs : List (Key × V)} {ts : List (Str × List Str)} (h : ColsAt H kvs ts) {y : Str} (hn : y ∉ ts.map (·.1)) : valV kvs (.inr y) = none ∧ (kvs.any fun kv => decide (kv.1 = Sum.inr y)) = false := by
  induction h with
  | nil => exact ⟨rfl, rfl⟩
  | cons g t ih =>
    rw [List.map_cons, List.mem_cons, not_or] at hn
    obtain ⟨i1, i2⟩ := ih hn.2
    rename_i a b l r
    have ne : ¬ a.1 = Sum.inr y := fun e => by
      rw [g.1] at e
      exact hn.1 (Sum.inr.inj e).symm
    refine ⟨?_, by rw [List.any_cons, i2, decide_eq_false ne]; rfl⟩
    unfold valV at i1 ⊢
    rw [List.find?_cons, decide_eq_false ne]
    exact i1
structure GoodText (x : Str) : Prop where
  len : x.length ≤ 10000
  ne : linesOf x ≠ []
  few : (linesOf x).length ≤ 4
  size : ∀ l ∈ linesOf x, l.length ≤ 10000 ∧ (Txt.split l " ").length ≤ 10000 ∧ ∀ y ∈ Txt.split l " ", y.length ≤ 10000
  ok : ∀ l ∈ linesOf x, isTableLine (Txt.split l " ") = true
  nd : ((linesOf x).map fun l => (tabOf l).1).Nodup
def sp_declared_tables (K : PySem.W.Frag) (P1 P2 : Addr) : Sp := fun vs H Q _ => ∃ x : Str, vs = [.str x] ∧ GoodText x ∧ H P1 = some (TabX P1) ∧ H P2 = some (TabX P2) ∧
  ∀ d o kvs H', H d = none → Same H H' → H' d = some (.frz o (.dK kvs)) → ColsAt H' kvs ((linesOf x).map tabOf) → Q (.ref d) H'
theorem ok_declared_tables (T : TX K mg) (B : TB T base) : FnOk P w K mg base CX0 5 T.a_declared_tables T.fd_declared_tables p_declared_tables (sp_declared_tables K T.P_is_name T.P_is_table_line) := by
  refine T.F_declared_tables.ok sc_declared_tables (fun vs H Q E h => ?_) (fun cdv A outer s H vs Q E hr h => ?_)
  · obtain ⟨x, rfl, _⟩ := h
    rfl
  · obtain ⟨x, rfl, G, hP1, hP2, k⟩ := h
    refine ⟨_, (pss_cons (ps_set (i := 1) sc_declared_tables.nd rfl (Or.inl rfl) (pe_call (ok_lines_of T B) (hr.mono (by decide)) rfl T.g_lines_of T.F_lines_of.kp T.b_lines_of .nil pass0 (pa_cons (pv 0) pa_nil)))
  (pss_cons (ps_if (pt_not (pt_truth (pv 1) (by intro _; rfl))) (pss_one ps_never) pss_nil)
  (pss_cons (ps_set (i := 2) sc_declared_tables.nd rfl (Or.inl rfl) pe_dnewK)
  (pss_cons (ps_for PassesOwn.never rfl (pi_from (k := 1) (by rfl) T.z_enumerate (pa_cons (pv 1) pa_nil) (by decide)) (pg_tup rfl (pgs_cons (pg_name (i := 3) sc_declared_tables.nd rfl (Or.inl rfl)) (pgs_cons (pg_name (i := 4) sc_declared_tables.nd rfl (Or.inl rfl)) pgs_nil))) (pss_cons (ps_set (i := 5) sc_declared_tables.nd rfl (Or.inl rfl) (pe_call (ok_words_of T B) (hr.mono (by decide)) rfl T.g_words_of T.F_words_of.kp T.b_words_of .nil pass0 (pa_cons (pv 4) pa_nil)))
  (pss_join (ps_if (PW.pt (pw_or (pt_cmpR op_gt (pv 3) (pe_globI rfl T.c_MOST_TABLES) (nomark _)) (pw_or (pt_not (pt_val (pe_call (ok_is_table_line T B) (hr.mono (by decide)) rfl T.g_is_table_line T.F_is_table_line.kp T.b_is_table_line .nil pass0 (pa_cons (pv 5) pa_nil)))) (pw_or1 (pt_cmp (pc_din (hu_of hr) (pe_ix ix_list (pv 5) pe_int (fun _ _ => rfl)) (pv 2))))))) (pss_one ps_never) pss_nil)
  (pss_one (ps_dput (hu_of hr) (pv 2) (pe_ix ix_list (pv 5) pe_int (fun _ _ => rfl)) (pe_callTy tup_ofN (by rfl) T.z_tuple (by decide +kernel) (pa_cons (pe_slice (sl_listS (K := K)) (pv 5) (po_some pe_int) po_none) pa_nil)) rfl)))))
  (pss_one (ps_ret (pe_frz (pv 2)))))))), ?_⟩
    refine ⟨_, rfl, x, rfl, G.len, fun a1 Ha ha sa ea => ?_⟩
    generalize hL : linesOf x = L at ea k
    have hne : L ≠ [] := by rw [← hL]; exact G.ne
    have hfew : L.length ≤ 4 := by rw [← hL]; exact G.few
    have hml : (L.map V.str).length = L.length := List.length_map ..
    refine ⟨_, rfl, _, .inl ⟨_, SqL.of ea, rfl⟩, ?_⟩
    have hemp : (L.map V.str).isEmpty = false := by
      cases L with
      | nil => exact absurd rfl hne
      | cons _ _ => rfl
    rw [hemp]
    refine iteF fun d hd => ?_
    have nd : d ≠ a1 := fun z => by rw [z, ea] at hd; cases hd
    have hdH : H d = none := sa.free hd
    refine ⟨_, rfl, a1, _, rfl, SqL.of (by rw [upd_ne (Ne.symm nd)]; exact ea), fun i m σ' H' => ∃ (kvs : List (Key × V)) (s3 s4 s5 : Option V), m = L.length - i ∧ i ≤ L.length ∧ σ' = [some (.str x), some (.ref a1), some (.ref d), s3, s4, s5] ∧ Same Ha H' ∧ H' d = some (.dK kvs) ∧ ColsAt H' kvs ((L.take i).map tabOf),
      ⟨L.length, [], none, none, none, rfl, Nat.zero_le _, rfl, Same.new (Same.refl Ha) hd, upd_same, .nil⟩, ?_⟩
    rintro i m σ' H' ⟨kvs, s3, s4, s5, rfl, hi, rfl, hs, hd', hc⟩
    have ea' := hs _ _ ea
    by_cases hlt : i < L.length
    · refine .inr ⟨⟨_, V.str L[i], SqL.of ea', by rw [List.getElem?_map, List.getElem?_eq_getElem hlt]; rfl⟩, fun σ2 H2 => ∃ (kvs : List (Key × V)) (s3 s4 s5 : Option V), σ2 = [some (.str x), some (.ref a1), some (.ref d), s3, s4, s5] ∧ Same Ha H2 ∧ H2 d = some (.dK kvs) ∧ ColsAt H2 kvs ((L.take (i + 1)).map tabOf),
        fun σ2 H2 ⟨kvs, s3, s4, s5, e1, e2, e3, e4⟩ => ⟨L.length - (i + 1), by omega, kvs, s3, s4, s5, rfl, hlt, e1, e2, e3, e4⟩, ?_⟩
      rintro v H2 ⟨T0, x0, rfl, hT0, rfl, hx0⟩
      have hx0 := hx0 _ (SqL.of ea')
      rw [List.getElem?_map, List.getElem?_eq_getElem hlt] at hx0
      cases hx0
      have hmem : L[i] ∈ linesOf x := by rw [hL]; exact List.getElem_mem hlt
      obtain ⟨z1, z2, z3⟩ := G.size _ hmem
      have zok := G.ok _ hmem
      refine ⟨T0, _, rfl, SqT.of upd_same, rfl, _, _, rfl, _, _, rfl, rfl, ?_⟩
      have sT : Same H' (upd H' T0 (.tup [.int ((1 + i : Nat) : Int), V.str L[i]])) := Same.new (Same.refl H') hT0
      refine ⟨_, rfl, L[i], rfl, z1, fun p H3 hp s03 e3 => ?_⟩
      generalize hW : Txt.split L[i] " " = ws at e3 z2 z3 zok
      have s13 : Same H' H3 := sT.trans s03
      have hlen3 : 3 ≤ ws.length := by
        unfold isTableLine at zok
        simp only [Bool.and_eq_true, Bool.not_eq_true', Bool.or_eq_false_iff, decide_eq_false_iff_not] at zok
        omega
      have h1 : (ws.map V.str)[1]? = some (V.str (ws.getD 1 Str.empty)) := by
        rw [List.getElem?_map, List.getElem?_eq_getElem (by omega), List.getD_eq_getElem?_getD, List.getElem?_eq_getElem (by omega)]; rfl
      have ht : tabOf L[i] = (ws.getD 1 Str.empty, ws.drop 2) := by unfold tabOf; rw [hW]
      have hnew : ws.getD 1 Str.empty ∉ ((L.take i).map tabOf).map (·.1) := by
        have nn := G.nd
        rw [hL] at nn
        intro hm
        rw [List.map_map] at hm
        obtain ⟨y, hy, ey⟩ := List.mem_map.mp hm
        obtain ⟨j, hj, ej⟩ := List.getElem_of_mem hy
        have hj2 : j < i := by
          have q := hj
          rw [List.length_take] at q
          omega
        rw [List.getElem_take] at ej
        have e9 : (L.map fun l => (tabOf l).1)[j]'(by rw [List.length_map]; omega) = (L.map fun l => (tabOf l).1)[i]'(by rw [List.length_map]; exact hlt) := by
          rw [List.getElem_map, List.getElem_map, ht, ej]
          exact ey
        have q := (List.getElem_inj nn).mp e9
        omega
      obtain ⟨hval, hany⟩ := hc.no hnew
      have hnum : decide ((4 : Int) < ((1 + i : Nat) : Int)) = false := decide_eq_false (by omega)
      refine ⟨fun σ2 H4 => σ2 = [some (.str x), some (.ref a1), some (.ref d), some (.int ((1 + i : Nat) : Int)), some (.str L[i]), some (.ref p)] ∧ Same H3 H4, ⟨_, rfl, _, _, rfl, rfl, _, rfl, ?_⟩, ?_⟩
      · rw [hnum]
        refine iteF ⟨_, rfl, p, ws, rfl, SqL.of e3, fun z => by rw [z] at hlen3; simp at hlen3, z2, z3, s13 _ _ (hs _ _ (sa _ _ hP1)), s13 _ _ (hs _ _ (sa _ _ hP2)), fun H4 s34 => ⟨_, rfl, ?_⟩⟩
        rw [zok]
        refine iteF ⟨_, rfl, p, _, 1, _, rfl, rfl, SqL.of (s34 _ _ e3), atI_nat (k := 1) h1, _, rfl, d, _, rfl, DGet.k (k := .inr (ws.getD 1 Str.empty)) (s34 _ _ (s13 _ _ hd')), _, rfl, ?_⟩
        rw [hval]
        exact iteF ⟨rfl, s34⟩
      · rintro σ2 H4 ⟨rfl, s34⟩
        have e4 := s34 _ _ e3
        have d4 := s34 _ _ (s13 _ _ hd')
        refine ⟨_, rfl, _, rfl, p, _, rfl, SqL.of e4, fun q H5 hq s45 e5 => ⟨q, _, rfl, SqL.of e5, fun q2 H6 hq2 sq eq2 => ?_⟩⟩
        have ec : cutV (List.map V.str ws) (some 2) none = (ws.drop 2).map V.str := by rw [cut_from _ (z := 2) (k := 2) rfl, List.map_drop]
        have e6 := sq _ _ (s45 _ _ e4)
        have d6 := sq _ _ (s45 _ _ d4)
        have s06 : Same H' H6 := ((s13.trans s34).trans s45).trans sq
        rw [ec] at eq2
        have hkl : kvs.length = i := by
          have q9 := Paired.length hc
          rw [List.length_map, List.length_take] at q9
          omega
        refine ⟨_, rfl, _, rfl, p, _, 1, _, rfl, rfl, SqL.of e6, atI_nat (k := 1) h1, d, _, rfl, DPut.k (k := .inr (ws.getD 1 Str.empty)) d6 (small1000 (by omega)), ?_⟩
        have hput : putK kvs (.inr (ws.getD 1 Str.empty)) (V.ref q2) = kvs ++ [(.inr (ws.getD 1 Str.empty), V.ref q2)] := by
          unfold putK
          rw [hany]; rfl
        rw [hput]
        have ndq : ∀ b o xs, H6 b = some (.frz o (.tup xs)) → b ≠ d := fun b o xs e z => by rw [z, d6] at e; cases e
        have hk6 : ∀ b o xs, H6 b = some (.frz o (.tup xs)) → (upd H6 d (.dK (kvs ++ [(.inr (ws.getD 1 Str.empty), V.ref q2)]))) b = some (.frz o (.tup xs)) := fun b o xs e => by rw [upd_ne (ndq b o xs e)]; exact e
        refine ⟨_, _, _, _, rfl, fun b o e => ?_, upd_same, ?_⟩
        · have nb : b ≠ d := fun z => by rw [z, hd] at e; cases e
          rw [upd_ne nb]
          exact s06 _ _ (hs _ _ e)
        · rw [List.take_add_one, List.getElem?_eq_getElem hlt]
          show ColsAt _ _ ((L.take i ++ [L[i]]).map tabOf)
          rw [List.map_append]
          refine paired_snoc (hc.keep fun b o xs e => hk6 b o xs (s06 _ _ e)) ?_
          rw [ht]
          exact ⟨rfl, q2, rfl, eq2.keep hk6⟩
    · have hin : i = L.length := by omega
      subst hin
      refine .inl ⟨⟨_, SqL.of ea', by rw [hml]; exact Nat.le_refl _⟩, _, rfl, d, _, rfl, hd', trivial, fun o => ?_⟩
      refine k d o kvs _ hdH (fun b u e => ?_) upd_same ?_
      · have nb : b ≠ d := fun z => by rw [z, hdH] at e; cases e
        rw [upd_ne nb]
        exact hs _ _ (sa _ _ e)
      · rw [List.take_length] at hc
        exact hc.keep fun b o xs e => by
          have nb : b ≠ d := fun z => by rw [z, hd'] at e; cases e
          rw [upd_ne nb]; exact e
end
end L2.Pf
set_option maxHeartbeats 2000000
namespace L2.Pf
open PySem PySem.Spec PyProof.Rows L2.Ev L2.Tpd L2.Seti L2.Gq L2.Enf L2.Sett L2.Itr L2.Dls L2.Own
section
variable {P : Program} {w : World} {K : PySem.W.Frag} {mg : Str → Option Value} {base : Heap}
/-- a schema of these tables stands at a -/
def SchemaAt (C : Addr) (H : Hp) (a : Addr) (tabs : List (Str × List Str)) : Prop := ∃ dx d o kvs t, H a = some (.ins C dx [("_columns", .ref d), ("tables", .ref t)]) ∧ H d = some (.frz o (.dK kvs)) ∧ ColsAt H kvs tabs ∧ H t = some (.tup (tabs.map fun p => V.str p.1))
theorem SchemaAt.same {C : Addr} {H H' : Hp} {a : Addr} {tabs : List (Str × List Str)} (h : SchemaAt C H a tabs) (s : Same H H') : SchemaAt C H' a tabs := by
  obtain ⟨dx, d, o, kvs, t, h1, h2, h3, h4⟩ := h
  exact ⟨dx, d, o, kvs, t, s _ _ h1, s _ _ h2, h3.keep fun q o xs e => s _ _ e, s _ _ h4⟩
def sp_Schema_init (C P1 P2 : Addr) : Sp := fun vs H Q _ => ∃ (a dx : Addr) (x : Str), vs = [.ref a, .str x] ∧ H a = some (.ins C dx []) ∧ GoodText x ∧ H P1 = some (TabX P1) ∧ H P2 = some (TabX P2) ∧
  ∀ H', But a H H' → SchemaAt C H' a ((linesOf x).map tabOf) → Q .non H'
theorem ok_Schema_init (T : TX K mg) (B : TB T base) : FnOk P w K mg base CX0 6 T.a_Schema_init T.fd_Schema_init p_Schema_init (sp_Schema_init T.C_Schema T.P_is_name T.P_is_table_line) := by
  refine T.F_Schema_init.ok sc_Schema_init (fun vs H Q E h => ?_) (fun cdv A outer s H vs Q E hr h => ?_)
  · obtain ⟨a, dx, x, rfl, _⟩ := h
    rfl
  · obtain ⟨a, dx, x, rfl, ha, G, hP1, hP2, k⟩ := h
    refine ⟨_, (pss_cons (ps_fld (pv 0) (pe_call (ok_declared_tables T B) (hr.mono (by decide)) rfl T.g_declared_tables T.F_declared_tables.kp T.b_declared_tables .nil pass0 (pa_cons (pv 1) pa_nil)) rfl)
  (pss_one (ps_fld (pv 0) (pe_callTy (tup_ofD rfl) (by rfl) T.z_tuple (by decide +kernel) (pa_cons (pe_fld (pv 0) rfl) pa_nil)) rfl))), ?_⟩
    refine ⟨_, rfl, x, rfl, G, hP1, hP2, fun d o kvs H1 hd s1 e1 c1 => ?_⟩
    have a1 := s1 _ _ ha
    have nad : a ≠ d := fun z => by rw [← z, ha] at hd; cases hd
    refine ⟨_, rfl, a, T.C_Schema, dx, [], rfl, a1, T.cl_Schema, T.n_Schema__columns, (by decide), ?_⟩
    have e2 : (upd H1 a (.ins T.C_Schema dx (putF "_columns" (.ref d) []))) d = some (.frz o (.dK kvs)) := by rw [upd_ne (Ne.symm nad)]; exact e1
    refine ⟨_, rfl, a, T.C_Schema, dx, [("_columns", .ref d)], _, rfl, upd_same, T.cl_Schema, T.n_Schema__columns, rfl, d, kvs, rfl, .inr ⟨o, e2⟩, fun t H3 ht s3 e3 => ?_⟩
    have a3 := s3 _ _ (upd_same (H := H1) (a := a) (o := .ins T.C_Schema dx (putF "_columns" (.ref d) [])))
    have nat : t ≠ a := fun z => by rw [z, upd_same] at ht; cases ht
    refine ⟨_, rfl, a, T.C_Schema, dx, _, rfl, a3, T.cl_Schema, T.n_Schema_tables, (show 1 < 1000 by decide), ?_⟩
    refine k _ (fun b u hb e => ?_) ⟨dx, d, o, kvs, t, upd_same, ?_, ?_, ?_⟩
    · rw [upd_ne hb]
      exact s3 _ _ (by rw [upd_ne hb]; exact s1 _ _ e)
    · rw [upd_ne (Ne.symm nad)]
      exact s3 _ _ e2
    · refine c1.keep fun q o xs e => ?_
      have nq : q ≠ a := fun z => by rw [z, a1] at e; cases e
      rw [upd_ne nq]
      exact s3 _ _ (by rw [upd_ne nq]; exact e)
    · rw [upd_ne nat, e3]
      have ke : ∀ {l : List (Key × V)} {r : List (Str × List Str)}, ColsAt H1 l r → (l.map fun p => kV p.1) = r.map fun p => V.str p.1 := by
        intro l r h
        induction h with
        | nil => rfl
        | cons g t ih =>
          rw [List.map_cons, List.map_cons, ih, g.1]; rfl
      rw [ke c1]
def sp_Schema_columns (C : Addr) : Sp := fun vs H Q _ => ∃ (a : Addr) (y : Str) (tabs : List (Str × List Str)) (cs : List Str), vs = [.ref a, .str y] ∧ SchemaAt C H a tabs ∧ (tabs.find? fun t => decide (t.1 = y)) = some (y, cs) ∧
  ∀ q, TupN H q (cs.map V.str) → Q (.ref q) H
theorem ok_Schema_columns (T : TX K mg) (B : TB T base) : FnOk P w K mg base CX0 3 T.a_Schema_columns T.fd_Schema_columns p_Schema_columns (sp_Schema_columns T.C_Schema) := by
  refine T.F_Schema_columns.ok sc_Schema_columns (fun vs H Q E h => ?_) (fun cdv A outer s H vs Q E hr h => ?_)
  · obtain ⟨a, y, tabs, cs, rfl, _⟩ := h
    rfl
  · obtain ⟨a, y, tabs, cs, rfl, ⟨dx, d, o, kvs, t, h1, h2, h3, h4⟩, hf, k⟩ := h
    refine ⟨_, (pss_cons (ps_if (pt_cmp (pc_dnotin (hu_of hr) (pv 1) (pe_fld (pv 0) rfl))) (pss_one ps_never) pss_nil)
  (pss_one (ps_ret (pe_dget (hu_of hr) (pe_fld (pv 0) rfl) (pv 1) (fun _ _ => rfl))))), ?_⟩
    have key : ∀ {kvs : List (Key × V)} {tabs : List (Str × List Str)}, ColsAt H kvs tabs → (tabs.find? fun t => decide (t.1 = y)) = some (y, cs) → ∃ q, valV kvs (.inr y) = some (.ref q) ∧ TupN H q (cs.map V.str) := by
      intro kvs tabs hc
      induction hc with
      | nil => intro z; cases z
      | cons g t ih =>
        intro z
        obtain ⟨g1, q, g2, g3⟩ := g
        rename_i p b l r
        obtain ⟨pk, pv⟩ := p
        have g1 : pk = .inr b.1 := g1
        have g2 : pv = .ref q := g2
        subst g1 g2
        by_cases e : b.1 = y
        · rw [List.find?_cons, decide_eq_true e] at z
          cases z
          exact ⟨q, valV_pos rfl, g3⟩
        · rw [List.find?_cons, decide_eq_false e] at z
          obtain ⟨q2, i1, i2⟩ := ih z
          refine ⟨q2, ?_, i2⟩
          unfold valV at i1 ⊢
          rw [List.find?_cons, decide_eq_false (fun z2 => e (Sum.inr.inj z2))]
          exact i1
    obtain ⟨q, hv, hq⟩ := key h3 hf
    have dg : ∀ r, r = valV kvs (.inr y) → DGet H d (.str y) r := fun r e => .inl ⟨kvs, .inr y, .inr ⟨o, h2⟩, rfl, e⟩
    refine ⟨_, rfl, _, rfl, a, T.C_Schema, dx, _, _, rfl, h1, T.cl_Schema, T.n_Schema__columns, rfl, d, _, rfl, dg _ hv.symm, _, rfl, ?_⟩
    exact iteF ⟨_, rfl, a, T.C_Schema, dx, _, _, rfl, h1, T.cl_Schema, T.n_Schema__columns, rfl, _, rfl, d, _, rfl, dg _ hv.symm, k q hq⟩
end
end L2.Pf
set_option maxHeartbeats 2000000
namespace L2.Pf
open PySem PySem.Spec PyProof.Rows L2.Ev L2.Tpd L2.Seti L2.Gq L2.Enf L2.Sett L2.Itr L2.Dls L2.Own
section
variable {P : Program} {w : World} {K : PySem.W.Frag} {mg : Str → Option Value} {base : Heap}
abbrev Tabs := List (Str × List Str)
abbrev Place := Str × Option Str
def colV : Option Str → V
  | none => .non
  | some c => .str c
/-- a place, or none -/
def PlV (H : Hp) : Option Place → V → Prop
  | none, v => v = .non
  | some p, v => ∃ q, v = .ref q ∧ H q = some (.tup [.str p.1, colV p.2])
theorem PlV.same {H H' : Hp} {o : Option Place} {v : V} (h : PlV H o v) (s : Same H H') : PlV H' o v := by
  cases o with
  | none => exact h
  | some p => exact let ⟨q, e, e2⟩ := h; ⟨q, e, s _ _ e2⟩
def readTable (tabs : Tabs) (x : Str) : Option Place := if inV (.str x) (tabs.map fun p => V.str p.1) = true then some (x, none) else none
def sp_read_table (C : Addr) : Sp := fun vs H Q _ => ∃ (a : Addr) (x : Str) (tabs : Tabs), vs = [.ref a, .str x] ∧ SchemaAt C H a tabs ∧ ∀ v H', Same H H' → PlV H' (readTable tabs x) v → Q v H'
theorem all_strs {α : Type} (f : α → Str) : ∀ l : List α, (l.map fun p => V.str (f p)).all flatV = true
  | [] => rfl
  | a :: l => by rw [List.map_cons, List.all_cons, all_strs f l]; rfl
theorem ok_read_table (T : TX K mg) (B : TB T base) : FnOk P w K mg base CX0 1 T.a_read_table T.fd_read_table p_read_table (sp_read_table T.C_Schema) := by
  refine T.F_read_table.ok sc_read_table (fun vs H Q E h => ?_) (fun cdv A outer s H vs Q E hr h => ?_)
  · obtain ⟨a, x, tabs, rfl, _⟩ := h
    rfl
  · obtain ⟨a, x, tabs, rfl, ⟨dx, d, o, kvs, t, h1, h2, h3, h4⟩, k⟩ := h
    refine ⟨_, (pss_cons (ps_if (pt_cmpR op_in_seq (pv 1) (pe_fld (pv 0) rfl) (by rfl)) (pss_one (ps_ret (pe_tupS (pa_cons (pv 1) (pa_cons pe_non pa_nil))))) pss_nil)
  (pss_one (ps_ret pe_non))), ?_⟩
    refine ⟨_, rfl, _, rfl, a, T.C_Schema, dx, _, _, rfl, h1, T.cl_Schema, T.n_Schema_tables, rfl, t, _, rfl, .inr (SqT.of h4), rfl, all_strs _ _, _, rfl, ?_⟩
    unfold readTable at k
    cases hb : inV (.str x) (tabs.map fun p => V.str p.1) with
    | true =>
      rw [if_pos hb] at k
      exact iteT ⟨_, rfl, (by show 2 ≤ sizeLine; decide), fun p H' hp s1 e1 => k _ H' s1 ⟨p, rfl, e1⟩⟩
    | false =>
      rw [if_neg (by rw [hb]; exact Bool.false_ne_true)] at k
      exact iteF (k .non H (Same.refl H) rfl)
/-- the columns of a table -/
def colsOf (tabs : Tabs) (y : Str) : Option (List Str) := (tabs.find? fun t => decide (t.1 = y)).map (·.2)
theorem eqV_str (a b : Str) : eqV (.str a) (.str b) = decide (a = b) := by
  by_cases e : a = b
  · subst e; simp [eqV]
  · rw [decide_eq_false e]
    show (a == b) = false
    exact beq_eq_false_iff_ne.mpr e
theorem cols_in : ∀ (tabs : Tabs) (y : Str), inV (.str y) (tabs.map fun p => V.str p.1) = (colsOf tabs y).isSome
  | [], _ => rfl
  | t :: r, y => by
    unfold colsOf inV
    rw [List.map_cons, List.any_cons, List.find?_cons, eqV_str]
    by_cases e : t.1 = y
    · rw [decide_eq_true e]; rfl
    · rw [decide_eq_false e]
      exact cols_in r y
theorem cols_find : ∀ {tabs : Tabs} {y : Str} {cs : List Str}, colsOf tabs y = some cs → (tabs.find? fun t => decide (t.1 = y)) = some (y, cs)
  | [], _, _, h => by cases h
  | t :: r, y, cs, h => by
    unfold colsOf at h
    rw [List.find?_cons] at h ⊢
    by_cases e : t.1 = y
    · rw [decide_eq_true e] at h ⊢
      have h2 : t.2 = cs := Option.some.inj h
      show some t = _
      rw [← e, ← h2]
    · rw [decide_eq_false e] at h ⊢
      exact cols_find (tabs := r) h
def readColumn (tabs : Tabs) (x : Str) : Option Place := match colsOf tabs (Txt.partition x ".").1 with
  | some cs => if inV (.str (Txt.partition x ".").2.2) (cs.map V.str) = true then some ((Txt.partition x ".").1, some (Txt.partition x ".").2.2) else none
  | none => none
def sp_read_column (C : Addr) : Sp := fun vs H Q _ => ∃ (a : Addr) (x : Str) (tabs : Tabs), vs = [.ref a, .str x] ∧ x.length ≤ 10000 ∧ SchemaAt C H a tabs ∧ ∀ v H', Same H H' → PlV H' (readColumn tabs x) v → Q v H'
theorem ok_read_column (T : TX K mg) (B : TB T base) : FnOk P w K mg base CX0 4 T.a_read_column T.fd_read_column p_read_column (sp_read_column T.C_Schema) := by
  refine T.F_read_column.ok sc_read_column (fun vs H Q E h => ?_) (fun cdv A outer s H vs Q E hr h => ?_)
  · obtain ⟨a, x, tabs, rfl, _⟩ := h
    rfl
  · obtain ⟨a, x, tabs, rfl, hx, hS, k⟩ := h
    have hS0 := hS
    obtain ⟨dx, d, o, kvs, t, h1, h2, h3, h4⟩ := hS
    refine ⟨_, (pss_cons (ps_asg (pe_partition (pv 1) pe_str) (pg_tup rfl (pgs_cons (pg_name (i := 2) sc_read_column.nd rfl (Or.inl rfl)) (pgs_cons (pg_name (i := 3) sc_read_column.nd rfl (Or.inl rfl)) (pgs_cons (pg_name (i := 4) sc_read_column.nd rfl (Or.inl rfl)) pgs_nil)))))
  (pss_join (ps_if (PW.pt (pw_and (pt_cmpR op_in_seq (pv 2) (pe_fld (pv 0) rfl) (by rfl)) (pw_and1 (pt_cmpR op_in_seq (pv 4) (pe_meth (pv 0) T.cl_Schema T.m_Schema_columns (ok_Schema_columns T B) (hr.mono (by decide)) T.b_Schema_columns .nil pass0 (pa_cons (pv 2) pa_nil)) (by rfl))))) (pss_one (ps_ret (pe_tupS (pa_cons (pv 2) (pa_cons (pv 4) pa_nil))))) pss_nil)
  (pss_one (ps_ret pe_non)))), ?_⟩
    unfold readColumn at k
    refine ⟨_, rfl, ⟨_, rfl⟩, x, _, rfl, rfl, by decide, Nat.le_trans hx (by decide), fun p hp => ?_⟩
    generalize Txt.partition x "." = pt at k ⊢
    obtain ⟨t1, mid, c1⟩ := pt
    have sp : Same H (upd H p (.tup [V.str t1, V.str mid, V.str c1])) := Same.new (Same.refl H) hp
    refine ⟨p, _, rfl, SqT.of upd_same, rfl, _, _, rfl, _, _, rfl, _, _, rfl, rfl, ?_⟩
    show tJoin _ _ _ _ (upd H p (.tup [V.str t1, V.str mid, V.str c1]))
    generalize upd H p (.tup [V.str t1, V.str mid, V.str c1]) = H1 at sp
    have a1 := sp _ _ h1
    have t1' := sp _ _ h4
    have S1 := hS0.same sp
    have no : ∀ {σ' : St} {H' : Hp}, (match colsOf tabs t1 with
      | some cs => if inV (.str c1) (cs.map V.str) = true then some (t1, some c1) else none
      | none => (none : Option Place)) = none → Same H H' → Q .non H' := fun e s => k .non _ s (by rw [e]; rfl)
    refine ⟨fun σ' H' => Same H H' ∧ (match colsOf tabs t1 with
      | some cs => if inV (.str c1) (cs.map V.str) = true then some (t1, some c1) else none
      | none => (none : Option Place)) = none, ⟨_, rfl, _, rfl, a, T.C_Schema, dx, _, _, rfl, a1, T.cl_Schema, T.n_Schema_tables, rfl, t, _, rfl, .inr (SqT.of t1'), rfl, all_strs _ _, _, rfl, ?_⟩, fun σ' H' ⟨s1, e⟩ => no (σ' := σ') e s1⟩
    rw [if_neg Bool.false_ne_true, cols_in tabs t1]
    cases hc : colsOf tabs t1 with
    | none => exact iteF (iteF ⟨sp, rfl⟩)
    | some cs =>
      refine iteT ⟨_, rfl, _, rfl, a, dx, _, rfl, a1, rfl, _, rfl, a, t1, tabs, cs, rfl, S1, cols_find hc, fun q hq => ⟨q, _, rfl, .inr hq.sq, rfl, ?_, _, rfl, ?_⟩⟩
      · have z := all_strs (fun y : Str => y) cs
        exact z
      · rw [if_neg Bool.false_ne_true]
        cases hb : inV (.str c1) (cs.map V.str) with
        | true =>
          refine iteT ⟨_, rfl, _, rfl, (by show 2 ≤ sizeLine; decide), fun r H' hr s2 e2 => k _ H' (sp.trans s2) ?_⟩
          rw [hc]
          show PlV H' (if inV (.str c1) (cs.map V.str) = true then some (t1, some c1) else none) _
          rw [if_pos hb]
          exact ⟨r, rfl, e2⟩
        | false =>
          refine iteF ⟨sp, ?_⟩
          show (if inV (.str c1) (cs.map V.str) = true then some (t1, some c1) else none) = none
          rw [if_neg (by rw [hb]; exact Bool.false_ne_true)]
end
end L2.Pf
set_option maxHeartbeats 2000000
namespace L2.Pf
open PySem PySem.Spec PyProof.Rows L2.Ev L2.Tpd L2.Seti L2.Gq L2.Enf L2.Sett L2.Itr L2.Dls L2.Own
section
variable {P : Program} {w : World} {K : PySem.W.Frag} {mg : Str → Option Value} {base : Heap}
abbrev Fact := Str × Place × Option Place
def wordAt (ws : List Str) (i : Nat) : Str := ws.getD i Str.empty
def readWords (tabs : Tabs) (ws : List Str) : Option Fact :=
  if ws.length = 2 ∧ inV (.str (wordAt ws 0)) k_OF_TABLES = true then (readTable tabs (wordAt ws 1)).map fun p => (wordAt ws 0, p, none)
  else if ws.length = 2 ∧ inV (.str (wordAt ws 0)) k_OF_COLUMNS = true then (readColumn tabs (wordAt ws 1)).map fun p => (wordAt ws 0, p, none)
  else if ws.length = 4 ∧ wordAt ws 0 = ("found" : Str) ∧ wordAt ws 2 = ("in" : Str) then (readColumn tabs (wordAt ws 3)).bind fun g => (readColumn tabs (wordAt ws 1)).map fun p => (wordAt ws 0, p, some g)
  else none
def FactV (H : Hp) : Option Fact → V → Prop
  | none, v => v = .non
  | some f, v => ∃ q pv gv, v = .ref q ∧ H q = some (.tup [.str f.1, pv, gv]) ∧ PlV H (some f.2.1) pv ∧ PlV H f.2.2 gv
theorem FactV.same {H H' : Hp} {o : Option Fact} {v : V} (h : FactV H o v) (s : Same H H') : FactV H' o v := by
  cases o with
  | none => exact h
  | some f => exact let ⟨q, pv, gv, e, e2, e3, e4⟩ := h; ⟨q, pv, gv, e, s _ _ e2, e3.same s, e4.same s⟩
def sp_read_fact (C : Addr) : Sp := fun vs H Q _ => ∃ (a : Addr) (x : Str) (tabs : Tabs), vs = [.ref a, .str x] ∧ x.length ≤ 10000 ∧ (∀ y ∈ Txt.split x " ", y.length ≤ 10000) ∧ SchemaAt C H a tabs ∧ ∀ v H', Same H H' → FactV H' (readWords tabs (Txt.split x " ")) v → Q v H'
theorem word_at {ws : List Str} {i : Nat} (h : i < ws.length) : (ws.map V.str)[i]? = some (V.str (wordAt ws i)) := by
  unfold wordAt
  rw [List.getElem?_map, List.getElem?_eq_getElem h, List.getD_eq_getElem?_getD, List.getElem?_eq_getElem h]; rfl
theorem word_mem {ws : List Str} {i : Nat} (h : i < ws.length) : wordAt ws i ∈ ws := by
  unfold wordAt
  rw [List.getD_eq_getElem?_getD, List.getElem?_eq_getElem h]; exact List.getElem_mem h
theorem ok_read_fact (T : TX K mg) (B : TB T base) : FnOk P w K mg base CX0 5 T.a_read_fact T.fd_read_fact p_read_fact (sp_read_fact T.C_Schema) := by
  refine T.F_read_fact.ok sc_read_fact (fun vs H Q E h => ?_) (fun cdv A outer s H vs Q E hr h => ?_)
  · obtain ⟨a, x, tabs, rfl, _⟩ := h
    rfl
  · obtain ⟨a, x, tabs, rfl, hx, hws, hS, k⟩ := h
    refine ⟨_, (pss_cons (ps_set (i := 2) sc_read_fact.nd rfl (Or.inl rfl) (pe_call (ok_words_of T B) (hr.mono (by decide)) rfl T.g_words_of T.F_words_of.kp T.b_words_of .nil pass0 (pa_cons (pv 1) pa_nil)))
  (pss_cons (ps_set (i := 3) sc_read_fact.nd rfl (Or.inl rfl) pe_non)
  (pss_cons (ps_set (i := 4) sc_read_fact.nd rfl (Or.inl rfl) pe_non)
  (pss_join (ps_if (PW.pt (pw_and (pt_cmpR op_eq (pe_callB call_len_seq (by rfl) T.z_len (by decide +kernel) (pa_cons (pv 2) pa_nil)) pe_int (nomark _)) (pw_and1 (pt_cmpR op_in_seq (pe_ix ix_list (pv 2) pe_int (fun _ _ => rfl)) (pe_glob (v := .ref T.a_OF_TABLES) rfl T.c_OF_TABLES rfl) (by rfl))))) (pss_one (ps_set (i := 3) sc_read_fact.nd rfl (Or.inl rfl) (pe_call (ok_read_table T B) (hr.mono (by decide)) rfl T.g_read_table T.F_read_table.kp T.b_read_table .nil pass0 (pa_cons (pv 0) (pa_cons (pe_ix ix_list (pv 2) pe_int (fun _ _ => rfl)) pa_nil))))) (pss_one (ps_if (PW.pt (pw_and (pt_cmpR op_eq (pe_callB call_len_seq (by rfl) T.z_len (by decide +kernel) (pa_cons (pv 2) pa_nil)) pe_int (nomark _)) (pw_and1 (pt_cmpR op_in_seq (pe_ix ix_list (pv 2) pe_int (fun _ _ => rfl)) (pe_glob (v := .ref T.a_OF_COLUMNS) rfl T.c_OF_COLUMNS rfl) (by rfl))))) (pss_one (ps_set (i := 3) sc_read_fact.nd rfl (Or.inl rfl) (pe_call (ok_read_column T B) (hr.mono (by decide)) rfl T.g_read_column T.F_read_column.kp T.b_read_column .nil pass0 (pa_cons (pv 0) (pa_cons (pe_ix ix_list (pv 2) pe_int (fun _ _ => rfl)) pa_nil))))) (pss_one (ps_if (PW.pt (pw_and (pt_cmpR op_eq (pe_callB call_len_seq (by rfl) T.z_len (by decide +kernel) (pa_cons (pv 2) pa_nil)) pe_int (nomark _)) (pw_and (pt_cmpR op_eq (pe_ix ix_list (pv 2) pe_int (fun _ _ => rfl)) pe_str (nomark _)) (pw_and1 (pt_cmpR op_eq (pe_ix ix_list (pv 2) pe_int (fun _ _ => rfl)) pe_str (nomark _)))))) (pss_cons (ps_set (i := 3) sc_read_fact.nd rfl (Or.inl rfl) (pe_call (ok_read_column T B) (hr.mono (by decide)) rfl T.g_read_column T.F_read_column.kp T.b_read_column .nil pass0 (pa_cons (pv 0) (pa_cons (pe_ix ix_list (pv 2) pe_int (fun _ _ => rfl)) pa_nil))))
  (pss_cons (ps_set (i := 4) sc_read_fact.nd rfl (Or.inl rfl) (pe_call (ok_read_column T B) (hr.mono (by decide)) rfl T.g_read_column T.F_read_column.kp T.b_read_column .nil pass0 (pa_cons (pv 0) (pa_cons (pe_ix ix_list (pv 2) pe_int (fun _ _ => rfl)) pa_nil))))
  (pss_one (ps_if (pt_cmpR op_isN (pv 4) pe_non (nomark _)) (pss_one (ps_ret pe_non)) pss_nil)))) pss_nil)))))
  (pss_cons (ps_if (pt_cmpR op_isN (pv 3) pe_non (nomark _)) (pss_one (ps_ret pe_non)) pss_nil)
  (pss_one (ps_ret (pe_tupS (pa_cons (pe_ix ix_list (pv 2) pe_int (fun _ _ => rfl)) (pa_cons (pv 3) (pa_cons (pv 4) pa_nil))))))))))), ?_⟩
    refine ⟨_, rfl, x, rfl, hx, fun p H1 hp s1 e1 => ?_⟩
    generalize Txt.split x " " = ws at hws k e1
    have S1 := hS.same s1
    have T1 : ∀ H', SqT K H' T.a_OF_TABLES k_OF_TABLES := fun H' => const_tup T.v_OF_TABLES (by decide)
    have T2 : ∀ H', SqT K H' T.a_OF_COLUMNS k_OF_COLUMNS := fun H' => const_tup T.v_OF_COLUMNS (by decide)
    have hml : (ws.map V.str).length = ws.length := List.length_map ..
    have lenEq : ∀ n : Nat, decide (V.int (((ws.map V.str).length : Nat) : Int) = V.int (n : Int)) = decide (ws.length = n) := fun n => by
      rw [hml]
      by_cases h : ws.length = n
      · rw [decide_eq_true h, decide_eq_true (by rw [h])]
      · rw [decide_eq_false h, decide_eq_false (show ¬ V.int ((ws.length : Nat) : Int) = V.int ((n : Nat) : Int) from fun z => h (by have z2 := V.int.inj z; omega))]
    -- what stands behind the three ways
    refine ⟨fun σ' H' => ∃ (op og : Option Place) (pv gv : V), σ' = [some (.ref a), some (.str x), some (.ref p), some pv, some gv] ∧ Same H1 H' ∧ PlV H' op pv ∧ PlV H' og gv ∧ (op ≠ none → 1 ≤ ws.length) ∧ readWords tabs ws = op.map fun q => (wordAt ws 0, q, og), ?_, ?_⟩
    · have none1 : (readWords tabs ws = none) → ∃ (op og : Option Place) (pv gv : V), [some (V.ref a), some (V.str x), some (V.ref p), some V.non, some V.non] = [some (.ref a), some (.str x), some (.ref p), some pv, some gv] ∧ Same H1 H1 ∧ PlV H1 op pv ∧ PlV H1 og gv ∧ (op ≠ none → 1 ≤ ws.length) ∧ readWords tabs ws = op.map fun q => (wordAt ws 0, q, og) :=
        fun e => ⟨none, none, .non, .non, rfl, Same.refl _, rfl, rfl, fun z => absurd rfl z, e⟩
      have le2 := lenEq 2
      have le4 := lenEq 4
      refine ⟨_, rfl, p, _, rfl, .inl (SqL.of e1), rfl, _, rfl, ?_⟩
      rw [show decide (V.int (((ws.map V.str).length : Nat) : Int) = V.int 2) = decide (ws.length = 2) from le2]
      by_cases h2 : ws.length = 2
      · rw [decide_eq_true h2]
        have hm1 : wordAt ws 1 ∈ ws := word_mem (by omega)
        refine iteT ⟨_, rfl, p, _, 0, _, rfl, rfl, SqL.of e1, atI_nat (k := 0) (word_at (by omega)), T.a_OF_TABLES, k_OF_TABLES, rfl, .inr (T1 H1), rfl, by decide, _, rfl, ?_⟩
        rw [if_neg Bool.false_ne_true]
        cases b1 : inV (.str (wordAt ws 0)) k_OF_TABLES with
        | true =>
          refine iteT ⟨_, rfl, _, rfl, p, _, 1, _, rfl, rfl, SqL.of e1, atI_nat (k := 1) (word_at (by omega)), a, wordAt ws 1, tabs, rfl, S1, fun v H' s2 hv => ⟨readTable tabs (wordAt ws 1), none, v, .non, rfl, s2, hv, rfl, fun _ => by omega, ?_⟩⟩
          unfold readWords
          rw [if_pos ⟨h2, b1⟩]
        | false =>
          refine iteF ⟨_, rfl, p, _, rfl, .inl (SqL.of e1), rfl, _, rfl, ?_⟩
          rw [show decide (V.int (((ws.map V.str).length : Nat) : Int) = V.int 2) = decide (ws.length = 2) from le2, decide_eq_true h2]
          refine iteT ⟨_, rfl, p, _, 0, _, rfl, rfl, SqL.of e1, atI_nat (k := 0) (word_at (by omega)), T.a_OF_COLUMNS, k_OF_COLUMNS, rfl, .inr (T2 H1), rfl, by decide, _, rfl, ?_⟩
          rw [if_neg Bool.false_ne_true]
          cases b2 : inV (.str (wordAt ws 0)) k_OF_COLUMNS with
          | true =>
            refine iteT ⟨_, rfl, _, rfl, p, _, 1, _, rfl, rfl, SqL.of e1, atI_nat (k := 1) (word_at (by omega)), a, wordAt ws 1, tabs, rfl, hws _ hm1, S1, fun v H' s2 hv => ⟨readColumn tabs (wordAt ws 1), none, v, .non, rfl, s2, hv, rfl, fun _ => by omega, ?_⟩⟩
            unfold readWords
            rw [if_neg (fun z => by rw [b1] at z; cases z.2), if_pos ⟨h2, b2⟩]
          | false =>
            refine iteF ⟨_, rfl, p, _, rfl, .inl (SqL.of e1), rfl, _, rfl, ?_⟩
            rw [show decide (V.int (((ws.map V.str).length : Nat) : Int) = V.int 4) = decide (ws.length = 4) from le4, decide_eq_false (show ¬ ws.length = 4 by omega)]
            refine iteF (iteF (none1 ?_))
            unfold readWords
            rw [if_neg (fun z => by rw [b1] at z; cases z.2), if_neg (fun z => by rw [b2] at z; cases z.2), if_neg (fun z => by omega)]
      · rw [decide_eq_false h2]
        refine iteF (iteF ⟨_, rfl, p, _, rfl, .inl (SqL.of e1), rfl, _, rfl, ?_⟩)
        rw [show decide (V.int (((ws.map V.str).length : Nat) : Int) = V.int 2) = decide (ws.length = 2) from le2, decide_eq_false h2]
        refine iteF (iteF ⟨_, rfl, p, _, rfl, .inl (SqL.of e1), rfl, _, rfl, ?_⟩)
        rw [show decide (V.int (((ws.map V.str).length : Nat) : Int) = V.int 4) = decide (ws.length = 4) from le4]
        have r1 : readWords tabs ws = if ws.length = 4 ∧ wordAt ws 0 = ("found" : Str) ∧ wordAt ws 2 = ("in" : Str) then (readColumn tabs (wordAt ws 3)).bind fun g => (readColumn tabs (wordAt ws 1)).map fun p => (wordAt ws 0, p, some g) else none := by
          unfold readWords
          rw [if_neg (fun z => h2 z.1), if_neg (fun z => h2 z.1)]
        by_cases h4 : ws.length = 4
        · rw [decide_eq_true h4]
          have hm1 : wordAt ws 1 ∈ ws := word_mem (by omega)
          have hm3 : wordAt ws 3 ∈ ws := word_mem (by omega)
          refine iteT ⟨_, rfl, p, _, 0, _, rfl, rfl, SqL.of e1, atI_nat (k := 0) (word_at (by omega)), rfl, _, rfl, ?_⟩
          by_cases f0 : wordAt ws 0 = ("found" : Str)
          · rw [decide_eq_true (show V.str (wordAt ws 0) = V.str ("found" : Str) by rw [f0])]
            refine iteT ⟨_, rfl, p, _, 2, _, rfl, rfl, SqL.of e1, atI_nat (k := 2) (word_at (by omega)), rfl, _, rfl, ?_⟩
            by_cases f2 : wordAt ws 2 = ("in" : Str)
            · rw [decide_eq_true (show V.str (wordAt ws 2) = V.str ("in" : Str) by rw [f2])]
              refine iteT ⟨_, rfl, _, rfl, p, _, 1, _, rfl, rfl, SqL.of e1, atI_nat (k := 1) (word_at (by omega)), a, wordAt ws 1, tabs, rfl, hws _ hm1, S1, fun v H2 s2 hv => ?_⟩
              have e2 := s2 _ _ e1
              refine ⟨_, rfl, _, rfl, p, _, 3, _, rfl, rfl, SqL.of e2, atI_nat (k := 3) (word_at (by omega)), a, wordAt ws 3, tabs, rfl, hws _ hm3, S1.same s2, fun v3 H3 s3 hv3 => ?_⟩
              refine ⟨v3, rfl, rfl, _, rfl, ?_⟩
              rw [if_pos ⟨h4, f0, f2⟩] at r1
              cases hg : readColumn tabs (wordAt ws 3) with
              | none =>
                rw [hg] at hv3 r1
                have hv3 : v3 = .non := hv3
                subst hv3
                refine iteT (k .non H3 ((s1.trans s2).trans s3) ?_)
                rw [r1]; rfl
              | some g =>
                rw [hg] at hv3 r1
                obtain ⟨q3, ev3, e3⟩ := id hv3
                rw [decide_eq_false (by rw [ev3]; intro z; cases z)]
                exact iteF ⟨readColumn tabs (wordAt ws 1), some g, v, v3, rfl, s2.trans s3, hv.same s3, hv3, fun _ => by omega, r1⟩
            · rw [decide_eq_false (show ¬ V.str (wordAt ws 2) = V.str ("in" : Str) from fun z => f2 (V.str.inj z))]
              refine iteF (none1 ?_)
              rw [r1, if_neg (fun z => f2 z.2.2)]
          · rw [decide_eq_false (show ¬ V.str (wordAt ws 0) = V.str ("found" : Str) from fun z => f0 (V.str.inj z))]
            refine iteF (iteF (none1 ?_))
            rw [r1, if_neg (fun z => f0 z.2.1)]
        · rw [decide_eq_false h4]
          refine iteF (iteF (none1 ?_))
          rw [r1, if_neg (fun z => h4 z.1)]
    · rintro σ' H' ⟨op, og, pv, gv, rfl, s2, hpv, hgv, hlen, hr0⟩
      have e2 := s2 _ _ e1
      refine ⟨pv, rfl, rfl, _, rfl, ?_⟩
      cases op with
      | none =>
        have hpv : pv = .non := hpv
        subst hpv
        refine iteT (k .non H' (s1.trans s2) ?_)
        rw [hr0]; rfl
      | some pl =>
        obtain ⟨q, eq, e3⟩ := id hpv
        rw [decide_eq_false (by rw [eq]; intro z; cases z)]
        have hl1 := hlen (fun z => by cases z)
        refine iteF ⟨_, rfl, p, _, 0, _, rfl, rfl, SqL.of e2, atI_nat (k := 0) (word_at (by omega)), _, rfl, _, rfl, (by show 3 ≤ sizeLine; decide), fun r H3 hr3 s3 e4 => k _ H3 ((s1.trans s2).trans s3) ?_⟩
        rw [hr0]
        exact ⟨r, pv, gv, rfl, e4, hpv.same s3, hgv.same s3⟩
end
end L2.Pf
set_option maxHeartbeats 2000000
namespace L2.Pf
open PySem PySem.Spec PyProof.Rows L2.Ev L2.Tpd L2.Seti L2.Gq L2.Enf L2.Sett L2.Itr L2.Dls L2.Own
section
variable {P : Program} {w : World} {K : PySem.W.Frag} {mg : Str → Option Value} {base : Heap}
/-- one fact's link, or none -/
def OneL (H : Hp) (b : Bool) (x y : V) (acc : List V) : Prop := if b = true then ∃ q, acc = [.ref q] ∧ H q = some (.tup [x, y]) else acc = []
theorem OneL.keep {H H' : Hp} {b : Bool} {x y : V} {acc : List V} (h : OneL H b x y acc) (k : ∀ q xs, H q = some (.tup xs) → H' q = some (.tup xs)) : OneL H' b x y acc := by
  cases b with
  | true => exact let ⟨q, e, e2⟩ := h; ⟨q, e, k _ _ e2⟩
  | false => exact h
def OneV (H : Hp) (r : Addr) (b : Bool) (x y : V) : Prop := ∃ acc, H r = some (.lst acc) ∧ OneL H b x y acc
def sp_column_links (K : PySem.W.Frag) : Sp := fun vs H Q _ => ∃ (l q : Addr) (y : Str) (x1 x2 : V), vs = [.ref l] ∧ SqL K H l [.ref q] ∧ H q = some (.tup [.str y, x1, x2]) ∧
  ∀ r H', H r = none → Same H H' → OneV H' r (decide (y = ("found" : Str))) x1 x2 → Q (.ref r) H'
theorem tup_keep {H : Hp} {D : Addr} {o : HO} (h : ∃ u, H D = some (.lst u)) : ∀ q xs, H q = some (.tup xs) → (upd H D o) q = some (.tup xs) := fun q xs e => by
  obtain ⟨u, hu⟩ := h
  rw [upd_ne (fun z => by rw [z, hu] at e; cases e)]; exact e
theorem ok_column_links (T : TX K mg) (B : TB T base) : FnOk P w K mg base CX0 1 T.a_column_links T.fd_column_links p_column_links (sp_column_links K) := by
  refine T.F_column_links.ok sc_column_links (fun vs H Q E h => ?_) (fun cdv A outer s H vs Q E hr h => ?_)
  · obtain ⟨l, q, y, x1, x2, rfl, _⟩ := h
    rfl
  · obtain ⟨l, q, y, x1, x2, rfl, hS, hq, k⟩ := h
    refine ⟨_, (pss_one (ps_ret (pe_lc (own := [("word", 1), ("place", 2), ("goal", 3)]) (g := gTup K 3 (gCons (gName 1) (gCons (gName 2) (gCons (gName 3) gNil)))) (tt := _) rfl sc_column_links.nd (pi_list (pv 0)) (blkOk_by (own := [("word", 1), ("place", 2), ("goal", 3)]) (N := n_column_links) (sc := defScope s_column_links) (by decide +kernel)) (fun _ _ _ _ _ => (pg_tup rfl (pgs_cons (pg_name (i := 1) sc_column_links.nd rfl (Or.inl rfl)) (pgs_cons (pg_name (i := 2) sc_column_links.nd rfl (Or.inl rfl)) (pgs_cons (pg_name (i := 3) sc_column_links.nd rfl (Or.inl rfl)) pgs_nil))))) (fun _ _ _ _ _ => pts_one (pt_cmpR op_eq (pv 1) pe_str (nomark _))) (fun _ _ _ _ _ => (pe_tupS (pa_cons (pv 2) (pa_cons (pv 3) pa_nil))))))), ?_⟩
    refine ⟨_, rfl, l, rfl, ⟨_, hS⟩, fun D hD => ?_⟩
    refine lc_grow (n := 1) hD (fun i acc H' => (i = 0 → acc = []) ∧ (i = 1 → OneL H' (decide (y = ("found" : Str))) x1 x2 acc)) (fun i acc H' o hp hu => ⟨hp.1, fun e => (hp.2 e).keep (tup_keep hu)⟩) (fun _ _ => ⟨fun _ => rfl, fun z => by cases z⟩)
      (fun i H' hi s1 => ⟨_, V.ref q, s1.seq hS, by rw [show i = 0 by omega]; rfl⟩) (fun H' s1 => ⟨_, s1.seq hS, Nat.le_refl _⟩) (by decide) (fun i acc H' F G hF hG hi s1 hacc hp v H2 yl => ?_) (fun acc H' s1 ha hp => k D H' hD s1 ⟨acc, ha, hp.2 rfl⟩)
    obtain ⟨eH, ev⟩ := yl
    subst eH
    have hi0 : i = 0 := by omega
    subst hi0
    have ev := ev _ (s1.seq hS)
    cases ev
    have eacc := hp.1 rfl
    subst eacc
    have q1 := s1 _ _ hq
    refine ⟨q, _, rfl, SqT.of q1, rfl, _, _, rfl, _, _, rfl, _, _, rfl, rfl, rfl, ?_⟩
    refine ⟨_, rfl, rfl, _, rfl, ?_⟩
    by_cases f : y = ("found" : Str)
    · rw [decide_eq_true (show V.str y = V.str ("found" : Str) by rw [f])]
      refine iteT ⟨_, rfl, _, rfl, (by show 2 ≤ sizeLine; decide), fun r H3 hr3 s3 e3 => hF _ H3 s3 ⟨fun z => by omega, fun _ => ?_⟩⟩
      unfold OneL
      rw [if_pos (decide_eq_true f)]
      exact ⟨r, rfl, e3⟩
    · rw [decide_eq_false (show ¬ V.str y = V.str ("found" : Str) from fun z => f (V.str.inj z))]
      refine iteF (hG _ (Same.refl _) ⟨fun z => by omega, fun _ => ?_⟩)
      unfold OneL
      rw [if_neg (by rw [decide_eq_false f]; exact Bool.false_ne_true)]
def sp_table_links (K : PySem.W.Frag) : Sp := fun vs H Q _ => ∃ (l q : Addr) (f : Fact) (v1 v2 : V), vs = [.ref l] ∧ SqL K H l [.ref q] ∧ H q = some (.tup [.str f.1, v1, v2]) ∧ PlV H (some f.2.1) v1 ∧ PlV H f.2.2 v2 ∧ (f.1 = ("found" : Str) → f.2.2 ≠ none) ∧
  ∀ r H', H r = none → Same H H' → OneV H' r (decide (f.1 = ("found" : Str))) (.str f.2.1.1) (.str ((f.2.2.map (·.1)).getD Str.empty)) → Q (.ref r) H'
theorem ok_table_links (T : TX K mg) (B : TB T base) : FnOk P w K mg base CX0 2 T.a_table_links T.fd_table_links p_table_links (sp_table_links K) := by
  refine T.F_table_links.ok sc_table_links (fun vs H Q E h => ?_) (fun cdv A outer s H vs Q E hr h => ?_)
  · obtain ⟨l, q, f, v1, v2, rfl, _⟩ := h
    rfl
  · obtain ⟨l, q, f, v1, v2, rfl, hS, hq, p1, p2, hff, k⟩ := h
    refine ⟨_, (pss_one (ps_ret (pe_lc (own := [("place", 1), ("goal", 2)]) (g := gTup K 2 (gCons (gName 1) (gCons (gName 2) gNil))) (tt := tYes) rfl sc_table_links.nd (pi_list (pe_call (ok_column_links T B) (hr.mono (by decide)) rfl T.g_column_links T.F_column_links.kp T.b_column_links .nil pass0 (pa_cons (pv 0) pa_nil))) (blkOk_by (own := [("place", 1), ("goal", 2)]) (N := n_table_links) (sc := defScope s_table_links) (by decide +kernel)) (fun _ _ _ _ _ => (pg_tup rfl (pgs_cons (pg_name (i := 1) sc_table_links.nd rfl (Or.inl rfl)) (pgs_cons (pg_name (i := 2) sc_table_links.nd rfl (Or.inl rfl)) pgs_nil)))) (fun _ _ _ _ _ => pts_nil) (fun _ _ _ _ _ => (pe_tupS (pa_cons (pe_ix (ix_tupK (K := K)) (pv 1) pe_int (fun _ _ => rfl)) (pa_cons (pe_ix (ix_tupK (K := K)) (pv 2) pe_int (fun _ _ => rfl)) pa_nil))))))), ?_⟩
    refine ⟨_, rfl, l, q, f.1, v1, v2, rfl, hS, hq, fun c Hc hc sc ec => ?_⟩
    obtain ⟨ac, ea, eo⟩ := ec
    refine ⟨c, rfl, ⟨_, SqL.of ea⟩, fun D hD => ?_⟩
    have hn : ac.length ≤ 1 := by
      unfold OneL at eo
      split at eo
      · obtain ⟨z, e, _⟩ := eo
        rw [e]; exact Nat.le_refl 1
      · rw [eo]; exact Nat.zero_le _
    refine lc_grow (n := ac.length) hD (fun i acc H' => (i = 0 → acc = []) ∧ (i = ac.length → OneL H' (decide (f.1 = ("found" : Str))) (.str f.2.1.1) (.str ((f.2.2.map (·.1)).getD Str.empty)) acc)) (fun i acc H' o hp hu => ⟨hp.1, fun e => (hp.2 e).keep (tup_keep hu)⟩) (fun H' s1 => ⟨fun _ => rfl, fun z => ?_⟩)
      (fun i H' hi s1 => ⟨_, ac[i], SqL.of (s1 _ _ ea), List.getElem?_eq_getElem hi⟩) (fun H' s1 => ⟨_, SqL.of (s1 _ _ ea), Nat.le_refl _⟩) (Nat.lt_of_le_of_lt hn (by decide)) (fun i acc H' F G hF hG hi s1 hacc hp v H2 yl => ?_) (fun acc H' s1 ha hp => k D H' (sc.free hD) (sc.trans s1) ⟨acc, ha, hp.2 rfl⟩)
    · unfold OneL at eo ⊢
      split at eo
      · obtain ⟨z2, e, _⟩ := eo
        rw [e] at z; cases z
      · rw [if_neg (by assumption)]
    · obtain ⟨eH, ev⟩ := yl
      subst eH
      have hi0 : i = 0 := by omega
      subst hi0
      have ev := ev _ (SqL.of (s1 _ _ ea))
      have eacc := hp.1 rfl
      subst eacc
      by_cases ff : f.1 = ("found" : Str)
      · unfold OneL at eo
        rw [if_pos (decide_eq_true ff)] at eo
        obtain ⟨z, e, e2⟩ := eo
        subst e
        cases ev
        obtain ⟨q1, eq1, h1⟩ := p1
        cases hg : f.2.2 with
        | none => exact absurd hg (hff ff)
        | some g =>
          rw [hg] at p2
          obtain ⟨q2, eq2, h2⟩ := p2
          subst eq1 eq2
          have s0 := sc.trans s1
          refine ⟨z, _, rfl, SqT.of (s1 _ _ e2), rfl, _, _, rfl, _, _, rfl, rfl, rfl, ?_⟩
          refine ⟨_, rfl, q1, _, 0, _, rfl, rfl, SqT.of (s0 _ _ h1), rfl, _, rfl, q2, _, 0, _, rfl, rfl, SqT.of (s0 _ _ h2), rfl, (by show 2 ≤ sizeLine; decide), fun r H3 hr3 s3 e3 => hF _ H3 s3 ⟨fun z => by omega, fun _ => ?_⟩⟩
          unfold OneL
          rw [if_pos (decide_eq_true ff), hg]
          exact ⟨r, rfl, e3⟩
      · unfold OneL at eo
        rw [if_neg (by rw [decide_eq_false ff]; exact Bool.false_ne_true)] at eo
        rw [eo] at hi
        exact absurd hi (Nat.not_lt_zero _)
end
end L2.Pf
set_option maxHeartbeats 2000000
namespace L2.Pf
open PySem PySem.Spec PyProof.Rows L2.Ev L2.Tpd L2.Seti L2.Gq L2.Enf L2.Sett L2.Itr L2.Dls L2.Own
section
variable {P : Program} {w : World} {K : PySem.W.Frag} {mg : Str → Option Value} {base : Heap}
abbrev Links := List (Str × Str)
def LinksAt (H : Hp) (l : Addr) (L : Links) : Prop := ∃ qs : List Addr, H l = some (.lst (qs.map V.ref)) ∧ Paired (fun q (p : Str × Str) => H q = some (.tup [.str p.1, .str p.2])) qs L
theorem LinksAt.same {H H' : Hp} {l : Addr} {L : Links} (h : LinksAt H l L) (s : Same H H') : LinksAt H' l L := let ⟨qs, e, p⟩ := h; ⟨qs, s _ _ e, Paired.mapP p fun _ _ z => s _ _ z⟩
/-- from x one comes to y -/
inductive Reach (L : Links) (x : Str) : Str → Prop
  | here : Reach L x x
  | step {y z : Str} : Reach L x y → (y, z) ∈ L → Reach L x z
def keysIs (kvs : List (Key × V)) (S : List Str) : Prop := kvs.map (·.1) = S.map Sum.inr
theorem keys_val {kvs : List (Key × V)} {S : List Str} (h : keysIs kvs S) (y : Str) : (valV kvs (.inr y)).isSome = decide (y ∈ S) := by
  induction kvs generalizing S with
  | nil =>
    cases S with
    | nil => rfl
    | cons _ _ => cases h
  | cons a r ih =>
    cases S with
    | nil => cases h
    | cons b S =>
      unfold keysIs at h
      rw [List.map_cons, List.map_cons] at h
      injection h with h1 h2
      have i := ih (S := S) h2
      unfold valV at i ⊢
      rw [List.find?_cons]
      by_cases e : b = y
      · subst e
        rw [decide_eq_true (show a.1 = Sum.inr b from h1)]
        simp
      · rw [decide_eq_false (show ¬ a.1 = Sum.inr y from fun z => e (Sum.inr.inj (h1.symm.trans z)))]
        rw [i]
        have e2 : ¬ y = b := fun z => e z.symm
        simp [e2]
theorem keys_put {kvs : List (Key × V)} {S : List Str} (h : keysIs kvs S) {y : Str} (hn : y ∉ S) (v : V) : putK kvs (.inr y) v = kvs ++ [(.inr y, v)] := by
  have z : (kvs.any fun kv => decide (kv.1 = Sum.inr y)) = false := by
    rw [List.any_eq_false]
    intro kv hk e
    have e : kv.1 = Sum.inr y := of_decide_eq_true e
    have m : Sum.inr y ∈ S.map (Sum.inr : Str → Key) := by
      rw [← h, ← e]; exact List.mem_map.mpr ⟨kv, hk, rfl⟩
    obtain ⟨u, hu, eu⟩ := List.mem_map.mp m
    exact hn (by rw [← Sum.inr.inj eu]; exact hu)
  unfold putK
  rw [z]; rfl
/-- how many links go to a name that is not yet known -/
def open_ (L : Links) (S : List Str) : Nat := (L.filter fun p => decide (p.2 ∉ S)).length
theorem open_put {L : Links} {S : List Str} {p : Str × Str} (hp : p ∈ L) (hn : p.2 ∉ S) : open_ L (S ++ [p.2]) < open_ L S := by
  unfold open_
  induction L with
  | nil => cases hp
  | cons a r ih =>
    have le : ∀ r : Links, (r.filter fun p' => decide (p'.2 ∉ S ++ [p.2])).length ≤ (r.filter fun p' => decide (p'.2 ∉ S)).length := by
      intro r
      induction r with
      | nil => exact Nat.le_refl _
      | cons b r ih2 =>
        by_cases h1 : b.2 ∈ S
        · have h2 : b.2 ∈ S ++ [p.2] := List.mem_append_left _ h1
          simp only [List.filter_cons, h1, h2, not_true, decide_false, Bool.false_eq_true, if_false]
          exact ih2
        · by_cases h2 : b.2 ∈ S ++ [p.2]
          · simp only [List.filter_cons, h1, h2, not_true, not_false_eq_true, decide_false, decide_true, Bool.false_eq_true, if_false, if_true, List.length_cons]
            omega
          · simp only [List.filter_cons, h1, h2, not_false_eq_true, decide_true, if_true, List.length_cons]
            omega
    rcases List.mem_cons.mp hp with e | h
    · subst e
      have h2 : p.2 ∈ S ++ [p.2] := List.mem_append_right _ (List.mem_singleton.mpr rfl)
      have q := le r
      simp only [List.filter_cons, hn, h2, not_true, not_false_eq_true, decide_false, decide_true, Bool.false_eq_true, if_false, if_true, List.length_cons]
      omega
    · have q := ih h
      by_cases h1 : a.2 ∈ S
      · have h2 : a.2 ∈ S ++ [p.2] := List.mem_append_left _ h1
        simp only [List.filter_cons, h1, h2, not_true, decide_false, Bool.false_eq_true, if_false]
        exact q
      · by_cases h2 : a.2 ∈ S ++ [p.2]
        · simp only [List.filter_cons, h1, h2, not_true, not_false_eq_true, decide_false, decide_true, Bool.false_eq_true, if_false, if_true, List.length_cons]
          omega
        · simp only [List.filter_cons, h1, h2, not_false_eq_true, decide_true, if_true, List.length_cons]
          omega
def sp_reached : Sp := fun vs H Q _ => ∃ (x : Str) (l : Addr) (L : Links), vs = [.str x, .ref l] ∧ LinksAt H l L ∧ L.length ≤ 400 ∧
  ∀ d H' kvs S, H d = none → Same H H' → H' d = some (.dK kvs) → keysIs kvs S → (∀ y, y ∈ S ↔ Reach L x y) → Q (.ref d) H'
theorem ok_reached (T : TX K mg) (B : TB T base) : FnOk P w K mg base CX0 1 T.a_reached T.fd_reached p_reached sp_reached := by
  refine T.F_reached.ok sc_reached (fun vs H Q E h => ?_) (fun cdv A outer s H vs Q E hr h => ?_)
  · obtain ⟨x, l, L, rfl, _⟩ := h
    rfl
  · obtain ⟨x, l, L, rfl, hL, hl4, k⟩ := h
    refine ⟨_, (pss_cons (ps_set (i := 2) sc_reached.nd rfl (Or.inl rfl) (pe_disp (pps_cons (pv 0) pe_bl pps_nil) (by rfl) (by rfl) (fun z => by cases z) (by decide)))
  (pss_cons (ps_set (i := 3) sc_reached.nd rfl (Or.inl rfl) (pe_lstS (pa_cons (pv 0) pa_nil)))
  (pss_cons (ps_while PassesOwn.never (pt_truth (pv 3) (by intro _; rfl)) (pss_cons (ps_set (i := 4) sc_reached.nd rfl (Or.inl rfl) (pe_bm0 PySem.F.plainAttrs_list PySem.F.slot_list_pop PySem.F.type_list_pop mt_pop (pv 3)))
  (pss_one (ps_for PassesOwn.never rfl (pi_list (pv 1)) (pg_tup rfl (pgs_cons (pg_name (i := 5) sc_reached.nd rfl (Or.inl rfl)) (pgs_cons (pg_name (i := 6) sc_reached.nd rfl (Or.inl rfl)) pgs_nil))) (pss_one (ps_if (PW.pt (pw_and (pt_cmpR op_eq (pv 5) (pv 4) (nomark _)) (pw_and1 (pt_cmp (pc_dnotin (hu_of hr) (pv 6) (pv 2)))))) (pss_cons (ps_dput (hu_of hr) (pv 2) (pv 6) pe_bl rfl)
  (pss_one (ps_expr (pe_bm PySem.F.plainAttrs_list PySem.F.slot_list_append PySem.F.type_list_append mt_appendS (pv 3) (pa_cons (pv 6) pa_nil))))) pss_nil))))))
  (pss_one (ps_ret (pv 2)))))), ?_⟩
    intro d hd
    refine ⟨_, rfl, upd_same, [(.inr x, .bl true)], rfl, (by show 1 ≤ 15; decide), ?_⟩
    have sd0 : Same H (upd (upd H d (.dK [])) d (.dK (mergeK [] [(Sum.inr x, V.bl true)]))) := Same.own (Same.own (Same.refl H) hd) hd
    have dd0 : (upd (upd H d (.dK [])) d (.dK (mergeK [] [(Sum.inr x, V.bl true)]))) d = some (.dK [(.inr x, .bl true)]) := upd_same
    generalize upd (upd H d (.dK [])) d (.dK (mergeK [] [(Sum.inr x, V.bl true)])) = H1 at sd0 dd0
    refine ⟨_, rfl, (by show 1 ≤ sizeLine; decide), fun wl H2 hw s12 ew => ?_⟩
    have s02 := sd0.trans s12
    have d2 := s12 _ _ dd0
    have hwH : H wl = none := sd0.free hw
    have ndw : d ≠ wl := fun z => by rw [← z, dd0] at hw; cases hw
    obtain ⟨qs, hl, hq⟩ := hL
    have hql : qs.length = L.length := Paired.length hq
    refine ⟨fun m σ H' => ∃ (kvs : List (Key × V)) (S Wt : List Str) (s4 s5 s6 : Option V), σ = [some (.str x), some (.ref l), some (.ref d), some (.ref wl), s4, s5, s6] ∧ Same H H' ∧ H' d = some (.dK kvs) ∧ keysIs kvs S ∧ H' wl = some (.lst (Wt.map V.str)) ∧
      m = 2 * open_ L S + Wt.length ∧ Wt.length + open_ L S ≤ 401 ∧ S.length + open_ L S ≤ 401 ∧ (∀ y ∈ S, Reach L x y) ∧ x ∈ S ∧ (∀ y ∈ Wt, y ∈ S) ∧ ∀ y z, y ∈ S → y ∉ Wt → (y, z) ∈ L → z ∈ S,
      ⟨_, [(.inr x, .bl true)], [x], [x], none, none, none, rfl, s02, d2, rfl, ew, rfl, ?_, ?_, fun y hy => ?_, List.mem_singleton.mpr rfl, fun y hy => hy, fun y z hy hn => absurd hy hn⟩, ?_⟩
    · have q : open_ L [x] ≤ L.length := List.length_filter_le _ _
      show 1 + open_ L [x] ≤ 401
      omega
    · have q : open_ L [x] ≤ L.length := List.length_filter_le _ _
      show 1 + open_ L [x] ≤ 401
      omega
    · rw [List.mem_singleton.mp hy]; exact Reach.here
    rintro m σ H' ⟨kvs, S, Wt, s4, s5, s6, rfl, s0, dk, hk, hwt, rfl, b1, b2, hre, hx, hsub, hcl⟩
    refine ⟨_, rfl, _, .inl ⟨_, SqL.of hwt, rfl⟩, ?_⟩
    by_cases hne : Wt = []
    · subst hne
      refine iteF ⟨_, rfl, k d H' kvs S hd s0 dk hk fun y => ⟨hre y, fun r => ?_⟩⟩
      induction r with
      | here => exact hx
      | step r1 hm ih => exact hcl _ _ ih (by simp) hm
    · obtain ⟨W0, here, rfl⟩ : ∃ a b, Wt = a ++ [b] := ⟨Wt.dropLast, Wt.getLast hne, (List.dropLast_concat_getLast hne).symm⟩
      have emp : ((W0 ++ [here]).map V.str).isEmpty = false := by rw [List.map_append]; simp
      rw [emp]
      have hlast : ((W0 ++ [here]).map V.str)[((W0 ++ [here]).map V.str).length - 1]? = some (V.str here) := by simp
      have hdrop : ((W0 ++ [here]).map V.str).dropLast = W0.map V.str := by rw [List.map_append]; simp
      have hlenW : (W0 ++ [here]).length = W0.length + 1 := by simp
      refine iteT ⟨fun σ' H2 => ∃ m', m' < 2 * open_ L S + (W0 ++ [here]).length ∧ ∃ (kvs : List (Key × V)) (S Wt : List Str) (s4 s5 s6 : Option V), σ' = [some (.str x), some (.ref l), some (.ref d), some (.ref wl), s4, s5, s6] ∧ Same H H2 ∧ H2 d = some (.dK kvs) ∧ keysIs kvs S ∧ H2 wl = some (.lst (Wt.map V.str)) ∧
        m' = 2 * open_ L S + Wt.length ∧ Wt.length + open_ L S ≤ 401 ∧ S.length + open_ L S ≤ 401 ∧ (∀ y ∈ S, Reach L x y) ∧ x ∈ S ∧ (∀ y ∈ Wt, y ∈ S) ∧ ∀ y z, y ∈ S → y ∉ Wt → (y, z) ∈ L → z ∈ S, fun σ' H2 z => z, ?_⟩
      refine ⟨_, rfl, .inl ⟨rfl, _, SqL.of hwt⟩, wl, _, _, rfl, rfl, hwt, hlast, ?_⟩
      rw [hdrop]
      have sw : Same H (upd H' wl (.lst (W0.map V.str))) := Same.own s0 hwH
      have ww : (upd H' wl (.lst (W0.map V.str))) wl = some (.lst (W0.map V.str)) := upd_same
      have dw : (upd H' wl (.lst (W0.map V.str))) d = some (.dK kvs) := by rw [upd_ne ndw]; exact dk
      generalize upd H' wl (.lst (W0.map V.str)) = H3 at sw ww dw
      generalize hM : 2 * open_ L S + (W0 ++ [here]).length = M at *
      have hM2 : 2 * open_ L S + W0.length < M := by rw [← hM, hlenW]; omega
      have hhere : here ∈ S := hsub _ (List.mem_append_right _ (List.mem_singleton.mpr rfl))
      refine ⟨_, rfl, l, rfl, ⟨_, SqL.of (sw _ _ hl)⟩, fun i m2 σ H2 => ∃ (kvs : List (Key × V)) (S Wt : List Str) (s5 s6 : Option V), σ = [some (.str x), some (.ref l), some (.ref d), some (.ref wl), some (.str here), s5, s6] ∧ m2 = L.length - i ∧ i ≤ L.length ∧ Same H H2 ∧ H2 d = some (.dK kvs) ∧ keysIs kvs S ∧ H2 wl = some (.lst (Wt.map V.str)) ∧
        2 * open_ L S + Wt.length < M ∧ Wt.length + open_ L S ≤ 401 ∧ S.length + open_ L S ≤ 401 ∧ (∀ y ∈ S, Reach L x y) ∧ x ∈ S ∧ (∀ y ∈ Wt, y ∈ S) ∧ here ∈ S ∧ (∀ y z, y ∈ S → y ∉ Wt → y ≠ here → (y, z) ∈ L → z ∈ S) ∧ ∀ j p, j < i → L[j]? = some p → p.1 = here → p.2 ∈ S,
        ⟨_, kvs, S, W0, s5, s6, rfl, rfl, Nat.zero_le _, sw, dw, hk, ww, hM2, by rw [hlenW] at b1; omega, b2, hre, hx, fun y hy => hsub y (List.mem_append_left _ hy), hhere, fun y z hy hn hh hm => hcl y z hy (fun q => ?_) hm, fun j p hj => absurd hj (Nat.not_lt_zero _)⟩, ?_⟩
      · rcases List.mem_append.mp q with q | q
        · exact hn q
        · exact hh (List.mem_singleton.mp q)
      clear hcl hre hx hsub hhere hM2 b1 b2 hk dw ww sw
      rintro i m2 σ H4 ⟨kvs, S, Wt, s5, s6, rfl, rfl, hi, s4, dk, hk, hw4, hlt4, c1, c2, hre, hx, hsub, hhere, hcl, hdone⟩
      by_cases hlt : i < L.length
      · have hqi : i < qs.length := by omega
        obtain ⟨p, hp⟩ : ∃ p, L[i]? = some p := ⟨L[i], List.getElem?_eq_getElem hlt⟩
        have hpair : H (qs[i]) = some (.tup [.str p.1, .str p.2]) := by
          have get : ∀ {a : List Addr} {b : Links} {n : Nat} {q : Addr} {z : Str × Str}, Paired (fun q (p : Str × Str) => H q = some (.tup [.str p.1, .str p.2])) a b → a[n]? = some q → b[n]? = some z → H q = some (.tup [.str z.1, .str z.2]) := by
            intro a b n q z h
            induction h generalizing n with
            | nil => intro e; cases e
            | cons g t ih =>
              intro e1 e2
              cases n with
              | zero => cases e1; cases e2; exact g
              | succ n => exact ih (by simpa using e1) (by simpa using e2)
          exact get hq (List.getElem?_eq_getElem hqi) hp
        refine .inr ⟨⟨_, V.ref qs[i], SqL.of (s4 _ _ hl), by rw [List.getElem?_map, List.getElem?_eq_getElem hqi]; rfl⟩, fun σ H2 => ∃ (kvs : List (Key × V)) (S Wt : List Str) (s5 s6 : Option V), σ = [some (.str x), some (.ref l), some (.ref d), some (.ref wl), some (.str here), s5, s6] ∧ Same H H2 ∧ H2 d = some (.dK kvs) ∧ keysIs kvs S ∧ H2 wl = some (.lst (Wt.map V.str)) ∧
          2 * open_ L S + Wt.length < M ∧ Wt.length + open_ L S ≤ 401 ∧ S.length + open_ L S ≤ 401 ∧ (∀ y ∈ S, Reach L x y) ∧ x ∈ S ∧ (∀ y ∈ Wt, y ∈ S) ∧ here ∈ S ∧ (∀ y z, y ∈ S → y ∉ Wt → y ≠ here → (y, z) ∈ L → z ∈ S) ∧ ∀ j p, j < i + 1 → L[j]? = some p → p.1 = here → p.2 ∈ S,
          fun σ H2 ⟨kvs, S, Wt, s5, s6, e1, e⟩ => ⟨L.length - (i + 1), by omega, kvs, S, Wt, s5, s6, e1, rfl, hlt, e⟩, ?_⟩
        rintro v H5 ⟨rfl, hv⟩
        have hv := hv _ (SqL.of (s4 _ _ hl))
        rw [List.getElem?_map, List.getElem?_eq_getElem hqi] at hv
        cases hv
        have more : ∀ {S2 : List Str}, (∀ y ∈ S, y ∈ S2) → (p.1 = here → p.2 ∈ S2) → ∀ j p', j < i + 1 → L[j]? = some p' → p'.1 = here → p'.2 ∈ S2 := fun {S2} hS h1 j p' hj e eh => by
          by_cases hji : j = i
          · subst hji
            rw [hp] at e
            cases e
            exact h1 eh
          · exact hS _ (hdone j p' (by omega) e eh)
        refine ⟨qs[i], _, rfl, SqT.of (s4 _ _ hpair), rfl, _, _, rfl, _, _, rfl, rfl, ?_⟩
        refine ⟨_, rfl, _, rfl, rfl, _, rfl, ?_⟩
        by_cases hst : p.1 = here
        · rw [decide_eq_true (show V.str p.1 = V.str here by rw [hst])]
          refine iteT ⟨_, rfl, _, rfl, d, _, rfl, DGet.k (k := .inr p.2) dk, _, rfl, ?_⟩
          rw [keys_val hk]
          by_cases hin : p.2 ∈ S
          · rw [decide_eq_true hin]
            exact iteF ⟨kvs, S, Wt, _, _, rfl, s4, dk, hk, hw4, hlt4, c1, c2, hre, hx, hsub, hhere, hcl, more (fun _ z => z) fun _ => hin⟩
          · rw [decide_eq_false hin]
            have hpm : p ∈ L := List.mem_of_getElem? hp
            have hop := open_put hpm hin
            have hkl : kvs.length = S.length := by
              have z := congrArg List.length hk
              rw [List.length_map, List.length_map] at z
              exact z
            have ew5 : (upd H5 d (.dK (putK kvs (.inr p.2) (.bl true)))) wl = some (.lst (Wt.map V.str)) := by rw [upd_ne (Ne.symm ndw)]; exact hw4
            refine iteT ⟨_, rfl, _, rfl, d, _, rfl, DPut.k (k := .inr p.2) dk (small1000 (by omega)), ?_⟩
            refine ⟨_, rfl, .inl ⟨rfl, _, SqL.of ew5⟩, _, rfl, wl, _, _, rfl, rfl, ew5, small1000 (by rw [List.length_map]; omega), fun H6 b6 e6 => ?_⟩
            have d6 : H6 d = some (.dK (kvs ++ [(.inr p.2, .bl true)])) := by
              rw [b6 d _ ndw upd_same, keys_put hk hin]
            refine ⟨_, S ++ [p.2], Wt ++ [p.2], _, _, rfl, fun b o e => ?_, d6, ?_, by rw [e6, List.map_append]; rfl, ?_, ?_, ?_, fun y hy => ?_, List.mem_append_left _ hx, fun y hy => ?_, List.mem_append_left _ hhere, fun y z hy hn hh hm => ?_, more (fun y hy => List.mem_append_left _ hy) fun _ => List.mem_append_right _ (List.mem_singleton.mpr rfl)⟩
            · have nb1 : b ≠ wl := fun z => by rw [z, hwH] at e; cases e
              have nb2 : b ≠ d := fun z => by rw [z, hd] at e; cases e
              exact b6 b o nb1 (by rw [upd_ne nb2]; exact s4 _ _ e)
            · unfold keysIs at hk ⊢
              rw [List.map_append, List.map_append, hk]; rfl
            · rw [List.length_append, List.length_singleton]; omega
            · rw [List.length_append, List.length_singleton]; omega
            · rw [List.length_append, List.length_singleton]; omega
            · rcases List.mem_append.mp hy with h | h
              · exact hre y h
              · rw [List.mem_singleton.mp h]
                exact Reach.step (hre here hhere) (by rw [← hst]; exact hpm)
            · rcases List.mem_append.mp hy with h | h
              · exact List.mem_append_left _ (hsub y h)
              · exact List.mem_append_right _ h
            · rcases List.mem_append.mp hy with h | h
              · exact List.mem_append_left _ (hcl y z h (fun q => hn (List.mem_append_left _ q)) hh hm)
              · exact absurd (List.mem_append_right _ h) hn
        · rw [decide_eq_false (show ¬ V.str p.1 = V.str here from fun z => hst (V.str.inj z))]
          exact iteF (iteF ⟨kvs, S, Wt, _, _, rfl, s4, dk, hk, hw4, hlt4, c1, c2, hre, hx, hsub, hhere, hcl, more (fun _ z => z) fun z => absurd z hst⟩)
      · have hin : i = L.length := by omega
        subst hin
        refine .inl ⟨⟨_, SqL.of (s4 _ _ hl), by rw [List.length_map]; omega⟩, 2 * open_ L S + Wt.length, hlt4, kvs, S, Wt, _, _, _, rfl, s4, dk, hk, hw4, rfl, c1, c2, hre, hx, hsub, fun y z hy hn hm => ?_⟩
        by_cases hh : y = here
        · subst hh
          obtain ⟨j, hj, ej⟩ := List.getElem_of_mem hm
          exact hdone j (y, z) hj (by rw [List.getElem?_eq_getElem hj, ej]) rfl
        · exact hcl y z hy hn hh hm
end
end L2.Pf
set_option maxHeartbeats 2000000
namespace L2.Pf
open PySem PySem.Spec PyProof.Rows L2.Ev L2.Tpd L2.Seti L2.Gq L2.Enf L2.Sett L2.Itr L2.Dls L2.Own
section
variable {P : Program} {w : World} {K : PySem.W.Frag} {mg : Str → Option Value} {base : Heap}
/-- a fact's link leads back: from its goal one comes to its start -/
def Back (L : Links) (f : Fact) : Prop := f.1 = ("found" : Str) ∧ Reach L ((f.2.2.map (·.1)).getD Str.empty) f.2.1.1
def sp_leads_back (P : Addr) : Sp := fun vs H Q _ => ∃ (q l : Addr) (f : Fact) (v1 v2 : V) (L : Links), vs = [.ref q, .ref l] ∧ H q = some (.tup [.str f.1, v1, v2]) ∧ PlV H (some f.2.1) v1 ∧ PlV H f.2.2 v2 ∧ (f.1 = ("found" : Str) → f.2.2 ≠ none) ∧ LinksAt H l L ∧ L.length ≤ 400 ∧ H P = some (TabX P) ∧
  ∀ (b : Bool) H', Same H H' → (b = true ↔ Back L f) → Q (.bl b) H'
theorem ok_leads_back (T : TX K mg) (B : TB T base) : FnOk P w K mg base CX0 4 T.a_leads_back T.fd_leads_back p_leads_back (sp_leads_back T.P_leads_back) := by
  classical
  refine Fun.okC T.F_leads_back T.t_leads_back sc_leads_back (fun vs H Q E h => ?_) (fun A outer s H vs Q E hr h => ?_)
  · obtain ⟨q, l, f, v1, v2, L, rfl, _⟩ := h
    rfl
  · obtain ⟨q, l, f, v1, v2, L, rfl, hq, p1, p2, hff, hL, hl4, hP, k⟩ := h
    refine ⟨_, (pss_one (ps_ret (pe_anyQ (own := [("start", 2), ("goal", 3)]) (gt := gTup K 2 (gCons (gName 2) (gCons (gName 3) gNil))) (tt := tYes) hr (by rfl) T.z_any  B.b_leads_back rfl ⟨blkOk_by (own := [("start", 2), ("goal", 3)]) (N := n_leads_back) (sc := defScope s_leads_back) (by decide +kernel), rfl, by decide +kernel, rfl⟩ sc_leads_back.nd (pi_list (pe_call (ok_table_links T B) (hr.mono (by decide)) rfl T.g_table_links T.F_table_links.kp T.b_table_links .nil pass0 (pa_cons (pe_lstS (pa_cons (pv 0) pa_nil)) pa_nil))) (fun _ _ _ _ _ _ _ hr => (pg_tup rfl (pgs_cons (pg_name (i := 2) sc_leads_back.nd rfl (Or.inl rfl)) (pgs_cons (pg_name (i := 3) sc_leads_back.nd rfl (Or.inl rfl)) pgs_nil)))) (fun _ _ _ _ _ _ _ hr => pts_nil) (fun _ _ _ _ _ _ _ hr => (pe_cmp (pc_din (hu_of hr) (pv 2) (pe_call (ok_reached T B) (hr.mono (by decide)) rfl T.g_reached T.F_reached.kp T.b_reached .nil pass0 (pa_cons (pv 3) (pa_cons (pv 1) pa_nil))))))))), ?_⟩
    refine ⟨_, rfl, (by show 1 ≤ sizeLine; decide), fun c Hc hc sc ec => ?_⟩
    refine ⟨c, q, f, v1, v2, rfl, SqL.of ec, sc _ _ hq, p1.same sc, p2.same sc, hff, fun r Hr hr1 sr er => ?_⟩
    obtain ⟨acc, ea, eo⟩ := er
    have s0 := sc.trans sr
    refine ⟨r, rfl, ⟨_, SqL.of ea⟩, s0 _ _ hP, ?_⟩
    refine q_turns (n := acc.length) (fun _ => decide (Reach L ((f.2.2.map (·.1)).getD Str.empty) f.2.1.1)) (fun _ H4 => Same Hr H4) (Same.refl _) (fun H4 s4 => ⟨_, SqL.of (s4 _ _ ea), Nat.le_refl _⟩) (fun i H4 hi s4 => ⟨_, acc[i], SqL.of (s4 _ _ ea), List.getElem?_eq_getElem hi⟩)
      (fun i v H4 H5 Qc hi s4 y hq2 => ?_) (fun H4 s4 hf => k _ H4 (s0.trans s4) ?_) (fun i H4 hi s4 hf hb => k _ H4 (s0.trans s4) ?_)
    · obtain ⟨eH, ev⟩ := y
      subst eH
      have ev := ev _ (SqL.of (s4 _ _ ea))
      by_cases ff : f.1 = ("found" : Str)
      · unfold OneL at eo
        rw [if_pos (decide_eq_true ff)] at eo
        obtain ⟨z, e, e2⟩ := eo
        subst e
        have hi0 : i = 0 := by simpa using hi
        subst hi0
        cases ev
        refine ⟨z, _, rfl, SqT.of (s4 _ _ e2), rfl, _, _, rfl, _, _, rfl, rfl, rfl, ?_⟩
        refine ⟨_, rfl, _, rfl, _, rfl, _, l, L, rfl, hL.same (s0.trans s4), hl4, fun d H6 kvs S hd s6 dk hk hS => ⟨d, _, rfl, DGet.k (k := .inr f.2.1.1) dk, ?_⟩⟩
        rw [keys_val hk]
        have e9 : decide (f.2.1.1 ∈ S) = decide (Reach L ((f.2.2.map (·.1)).getD Str.empty) f.2.1.1) := by
          by_cases h : f.2.1.1 ∈ S
          · rw [decide_eq_true h, decide_eq_true ((hS _).mp h)]
          · rw [decide_eq_false h, decide_eq_false (fun z => h ((hS _).mpr z))]
        rw [e9]
        exact hq2 H6 (s4.trans s6)
      · unfold OneL at eo
        rw [if_neg (by rw [decide_eq_false ff]; exact Bool.false_ne_true)] at eo
        rw [eo] at hi
        exact absurd hi (Nat.not_lt_zero _)
    · refine ⟨fun z => (by cases z), fun hb => ?_⟩
      obtain ⟨h1, h2⟩ := hb
      unfold OneL at eo
      rw [if_pos (decide_eq_true h1)] at eo
      obtain ⟨z, e, _⟩ := eo
      have hz := hf 0 (by rw [e]; exact Nat.zero_lt_one)
      rw [decide_eq_true h2] at hz
      cases hz
    · refine ⟨fun _ => ⟨?_, of_decide_eq_true hf⟩, fun _ => rfl⟩
      by_cases ff : f.1 = ("found" : Str)
      · exact ff
      · unfold OneL at eo
        rw [if_neg (by rw [decide_eq_false ff]; exact Bool.false_ne_true)] at eo
        rw [eo] at hi
        exact absurd hi (Nat.not_lt_zero _)
end
end L2.Pf
set_option maxHeartbeats 2000000
namespace L2.Pf
open PySem PySem.Spec PyProof.Rows L2.Ev L2.Tpd L2.Seti L2.Gq L2.Enf L2.Sett L2.Itr L2.Dls L2.Own L2.Ent
section
variable {P : Program} {w : World} {K : PySem.W.Frag} {mg : Str → Option Value} {base : Heap}
theorem ok_BadFact_init (T : TX K mg) : FnOk P w K mg base CX0 1 T.a_BadFact_init T.fd_BadFact_init p_BadFact_init (sp_ini1 T.x_BadFact.C "index") := by
  refine T.F_BadFact_init.ok sc_BadFact_init (fun vs H Q E h => ?_) (fun cdv A outer s H vs Q E hr h => ?_)
  · obtain ⟨a, v, rfl, _⟩ := h
    rfl
  · obtain ⟨a, v, rfl, ha, k⟩ := h
    refine ⟨_, (pss_one (ps_ost (pv 0) (pv 1))), ?_⟩
    exact ⟨_, rfl, _, rfl, a, T.x_BadFact.C, rfl, T.x_BadFact.oex, T.f_BadFact_init_index, .inl ⟨ha, fun dx n ne => k dx n ne⟩⟩
end
end L2.Pf
set_option maxHeartbeats 2000000
namespace L2.Pf
open PySem PySem.Spec PyProof.Rows L2.Ev L2.Tpd L2.Seti L2.Gq L2.Enf L2.Sett L2.Itr L2.Dls L2.Own L2.Ent
section
variable {P : Program} {w : World} {K : PySem.W.Frag} {mg : Str → Option Value} {base : Heap}
def linkOf (f : Fact) : Links := if f.1 = ("found" : Str) then [(f.2.1.1, (f.2.2.map (·.1)).getD Str.empty)] else []
open Classical in
/-- the lines one after another: the links so far, or the index of the first line that is none or leads back -/
noncomputable def runFacts (tabs : Tabs) : Nat → Links → List Str → Except Nat Links
  | _, L, [] => .ok L
  | i, L, x :: r => match readWords tabs (Txt.split x " ") with
    | none => .error i
    | some f => if Back L f then .error i else runFacts tabs (i + 1) (L ++ linkOf f) r
theorem words_goal {tabs : Tabs} {ws : List Str} {f : Fact} (h : readWords tabs ws = some f) (hf : f.1 = ("found" : Str)) : f.2.2 ≠ none := by
  unfold readWords at h
  split at h
  · rename_i c
    obtain ⟨p, _, e⟩ := Option.map_eq_some_iff.mp h
    rw [← e] at hf
    have hf : wordAt ws 0 = ("found" : Str) := hf
    rw [hf] at c
    exact absurd c.2 (by decide +kernel)
  · split at h
    · rename_i c
      obtain ⟨p, _, e⟩ := Option.map_eq_some_iff.mp h
      rw [← e] at hf
      have hf : wordAt ws 0 = ("found" : Str) := hf
      rw [hf] at c
      exact absurd c.2 (by decide +kernel)
    · split at h
      · obtain ⟨g, _, e⟩ := Option.bind_eq_some_iff.mp h
        obtain ⟨p, _, e⟩ := Option.map_eq_some_iff.mp e
        rw [← e]
        intro z; cases z
      · cases h
/-- each line once, where it first stood -/
def once (acc : List Str) (x : Str) : List Str := if x ∈ acc then acc else acc ++ [x]
def onces (ls : List Str) : List Str := ls.foldl once []
theorem putK_keys {kvs : List (Key × V)} {x : Str} {v : V} {acc : List Str} (h : kvs.map (·.1) = acc.map Sum.inr) : (putK kvs (.inr x) v).map (·.1) = (once acc x).map Sum.inr := by
  have mem : (kvs.any fun kv => decide (kv.1 = Sum.inr x)) = decide (x ∈ acc) := by
    have e : (kvs.any fun kv => decide (kv.1 = Sum.inr x)) = (kvs.map (·.1)).any fun k => decide (k = Sum.inr x) := by rw [List.any_map]; rfl
    rw [e, h]
    by_cases hx : x ∈ acc
    · rw [decide_eq_true hx]
      exact List.any_eq_true.mpr ⟨.inr x, List.mem_map.mpr ⟨x, hx, rfl⟩, decide_eq_true rfl⟩
    · rw [decide_eq_false hx, List.any_eq_false]
      intro k hk e
      obtain ⟨y, hy, ey⟩ := List.mem_map.mp hk
      have e := of_decide_eq_true e
      rw [← ey] at e
      exact hx (by rw [← Sum.inr.inj e]; exact hy)
  unfold putK once
  rw [mem]
  by_cases hx : x ∈ acc
  · rw [if_pos (decide_eq_true hx), if_pos hx, ← h, List.map_map]
    apply List.map_congr_left
    intro kv _
    show (if kv.1 = Sum.inr x then (kv.1, v) else kv).1 = kv.1
    split <;> rfl
  · rw [if_neg (by rw [decide_eq_false hx]; exact Bool.false_ne_true), if_neg hx, List.map_append, List.map_append, h]; rfl
theorem putK_len {kvs : List (Key × V)} {k : Key} {v : V} : (putK kvs k v).length ≤ kvs.length + 1 := by
  unfold putK
  split
  · rw [List.length_map]; omega
  · rw [List.length_append, List.length_singleton]; omega
open Classical in
theorem runFacts_cons {tabs : Tabs} {i : Nat} {L : Links} {x : Str} {r : List Str} : runFacts tabs i L (x :: r) = (match readWords tabs (Txt.split x " ") with
    | none => .error i
    | some f => if Back L f then .error i else runFacts tabs (i + 1) (L ++ linkOf f) r) := by
  conv => lhs; unfold runFacts
theorem runFacts_drop {tabs : Tabs} {ls : List Str} {i : Nat} {L : Links} (h : i < ls.length) : runFacts tabs i L (ls.drop i) = runFacts tabs i L (ls[i] :: ls.drop (i + 1)) := by
  rw [List.drop_eq_getElem_cons h]
theorem PlV.keepT {H H' : Hp} {o : Option Place} {v : V} (h : PlV H o v) (k : ∀ q xs, H q = some (.tup xs) → H' q = some (.tup xs)) : PlV H' o v := by
  cases o with
  | none => exact h
  | some p => exact let ⟨q, e, e2⟩ := h; ⟨q, e, k _ _ e2⟩
/-- the facts by their lines, as the dict holds them -/
def FactsVals (H : Hp) (tabs : Tabs) (kvs : List (Key × V)) : Prop := ∀ kv ∈ kvs, ∃ (x : Str) (f : Fact) (q : Addr) (vp vg : V), kv = (.inr x, .ref q) ∧ readWords tabs (Txt.split x " ") = some f ∧ H q = some (.tup [.str f.1, vp, vg]) ∧ PlV H (some f.2.1) vp ∧ PlV H f.2.2 vg
theorem FactsVals.keepT {H H' : Hp} {tabs : Tabs} {kvs : List (Key × V)} (h : FactsVals H tabs kvs) (k : ∀ q xs, H q = some (.tup xs) → H' q = some (.tup xs)) : FactsVals H' tabs kvs := fun kv hkv =>
  let ⟨x, f, q, vp, vg, e, e2, e3, e4, e5⟩ := h kv hkv; ⟨x, f, q, vp, vg, e, e2, k _ _ e3, e4.keepT k, e5.keepT k⟩
theorem FactsVals.put {H : Hp} {tabs : Tabs} {kvs : List (Key × V)} (h : FactsVals H tabs kvs) {x : Str} {f : Fact} {q : Addr} {vp vg : V} (e2 : readWords tabs (Txt.split x " ") = some f) (e3 : H q = some (.tup [.str f.1, vp, vg])) (e4 : PlV H (some f.2.1) vp) (e5 : PlV H f.2.2 vg) :
    FactsVals H tabs (putK kvs (.inr x) (.ref q)) := by
  unfold putK
  split
  · intro kv hkv
    obtain ⟨kv0, h0, e⟩ := List.mem_map.mp hkv
    by_cases hk : kv0.1 = Sum.inr x
    · rw [if_pos hk, hk] at e
      exact ⟨x, f, q, vp, vg, e.symm, e2, e3, e4, e5⟩
    · rw [if_neg hk] at e
      rw [← e]; exact h kv0 h0
  · intro kv hkv
    rcases List.mem_append.mp hkv with hm | hm
    · exact h kv hm
    · exact ⟨x, f, q, vp, vg, List.mem_singleton.mp hm, e2, e3, e4, e5⟩
def sp_read_facts (P C CB : Addr) : Sp := fun vs H Q E => ∃ (a l : Addr) (ls : List Str) (tabs : Tabs), vs = [.ref a, .ref l] ∧ SchemaAt C H a tabs ∧ (SqL K H l (ls.map V.str) ∨ SqT K H l (ls.map V.str)) ∧ ls.length ≤ 200 ∧
  (∀ x ∈ ls, x.length ≤ 10000 ∧ ∀ y ∈ Txt.split x " ", y.length ≤ 10000) ∧ H P = some (TabX P) ∧
  (∀ L d o kvs H', runFacts tabs 0 [] ls = .ok L → H d = none → Same H H' → H' d = some (.frz o (.dK kvs)) → kvs.map (·.1) = (onces ls).map Sum.inr → FactsVals H' tabs kvs → Q (.ref d) H') ∧
  (∀ i H' (dx : Addr), runFacts tabs 0 [] ls = .error i → Same H H' → H' dx = some (.xd [("index", .int (i : Nat))]) → E (.ref CB) (some dx) H')
theorem ok_read_facts (T : TX K mg) (B : TB T base) : FnOk P w K mg base (L2.CX P w) 6 T.a_read_facts T.fd_read_facts p_read_facts (sp_read_facts (K := K) T.P_leads_back T.C_Schema T.x_BadFact.C) := by
  classical
  refine Fun.okX T.F_read_facts sc_read_facts (fun vs H Q E h => ?_) (fun cdv A outer s H vs Q E hr h => ?_)
  · obtain ⟨a, l, ls, tabs, rfl, _⟩ := h
    rfl
  · obtain ⟨a, l, ls, tabs, rfl, hS, hl, hn, hx, hP, kq, ke⟩ := h
    refine ⟨_, (pss_cons (ps_set (i := 2) sc_read_facts.nd rfl (Or.inl rfl) pe_dnewK)
  (pss_cons (ps_set (i := 3) sc_read_facts.nd rfl (Or.inl rfl) (pe_lstS pa_nil))
  (pss_cons (ps_for (passes_of rfl) rfl (Ent.pi_enumS (by rfl) T.z_enumerate (pa_cons (pv 1) pa_nil)) (pg_tup rfl (pgs_cons (pg_name (i := 4) sc_read_facts.nd rfl (Or.inl rfl)) (pgs_cons (pg_name (i := 5) sc_read_facts.nd rfl (Or.inl rfl)) pgs_nil))) (pss_cons (ps_set (i := 6) sc_read_facts.nd rfl (Or.inl rfl) (pe_call (ok_read_fact T B) (hr.mono (by decide)) rfl T.g_read_fact T.F_read_fact.kp T.b_read_fact .nil pass0 (pa_cons (pv 0) (pa_cons (pv 5) pa_nil))))
  (pss_join (ps_if (PW.pt (pw_or (pt_cmpR op_isN (pv 6) pe_non (nomark _)) (pw_or1 (pt_val (pe_call (ok_leads_back T B) (hr.mono (by decide)) rfl T.g_leads_back T.F_leads_back.kp T.b_leads_back .nil pass0 (pa_cons (pv 6) (pa_cons (pv 3) pa_nil))))))) (pss_one (ps_raise rfl (takes_of rfl rfl rfl rfl) (pmk_oex T.x_BadFact.oex T.i_BadFact_init T.t_BadFact_init (ok_BadFact_init T) (hr.mono (by decide)) T.b_BadFact_init .nil pass0 (by rfl) T.x_BadFact.g (pa_cons (pv 4) pa_nil)))) pss_nil)
  (pss_cons (ps_dput (hu_of hr) (pv 2) (pv 5) (pv 6) rfl)
  (pss_one (ps_expr (pe_bm PySem.F.plainAttrs_list PySem.F.slot_list_extend PySem.F.type_list_extend mt_extend (pv 3) (pa_cons (pe_call (ok_table_links T B) (hr.mono (by decide)) rfl T.g_table_links T.F_table_links.kp T.b_table_links .nil pass0 (pa_cons (pe_lstS (pa_cons (pv 6) pa_nil)) pa_nil)) pa_nil))))))))
  (pss_one (ps_ret (pe_frz (pv 2))))))), ?_⟩
    intro d hd
    refine ⟨(by show 0 ≤ sizeLine; decide), fun wl H1 hw s01 ew => ?_⟩
    have sd : Same H (upd H d (.dK [])) := Same.new (Same.refl H) hd
    have ed : (upd H d (.dK [])) d = some (.dK []) := upd_same
    generalize upd H d (.dK []) = H0 at sd ed hw s01
    have s1 := sd.trans s01
    have d1 := s01 _ _ ed
    have hwH : H wl = none := sd.free hw
    have ndw : d ≠ wl := fun z => by rw [← z, ed] at hw; cases hw
    have hml : (ls.map V.str).length = ls.length := List.length_map ..
    -- the error raised
    have raise : ∀ (i : Nat) (σ : St) (H4 : Hp), σ[4]? = some (some (V.int (i : Nat))) → Same H H4 → runFacts tabs 0 [] ls = .error i → tMkO T.x_BadFact.C (sp_ini1 T.x_BadFact.C "index") [] (tCons (tVar 4) tNil) σ H4 fun cls d H' => E cls d H' := fun i σ H4 e4 s4 er => by
      refine ⟨_, e4, (by show 1 ≤ 1000; decide), fun ea hea => ⟨ea, _, rfl, upd_same, fun dx n ne => ⟨rfl, dx, [("index", .int (i : Nat))], upd_same, by rw [upd_ne ne, upd_same], ?_, ?_⟩⟩⟩
      · rw [upd_ne ne] at n; exact n
      · have hdx : H4 dx = none := by rw [upd_ne ne] at n; exact n
        refine ke i _ dx er (fun b o e => ?_) upd_same
        have e9 := s4 _ _ e
        have nb1 : b ≠ dx := fun z => by rw [z, hdx] at e9; cases e9
        have nb2 : b ≠ ea := fun z => by rw [z, hea] at e9; cases e9
        rw [upd_ne nb1]
        unfold del
        rw [if_neg nb2, upd_ne nb2, upd_ne nb1, upd_ne nb2]
        exact e9
    refine for_enumS (a := l) (Hb := H) rfl hl (fun i σ H' => ∃ (kvs : List (Key × V)) (L : Links) (s4 s5 s6 : Option V), σ = [some (.ref a), some (.ref l), some (.ref d), some (.ref wl), s4, s5, s6] ∧ Same H H' ∧ H' d = some (.dK kvs) ∧ LinksAt H' wl L ∧
        kvs.map (·.1) = (onces (ls.take i)).map Sum.inr ∧ FactsVals H' tabs kvs ∧ kvs.length ≤ i ∧ L.length ≤ i ∧ runFacts tabs 0 [] ls = runFacts tabs i L (ls.drop i))
      ⟨[], [], none, none, none, rfl, s1, d1, ⟨[], ew, .nil⟩, rfl, (fun kv h => absurd h List.not_mem_nil), Nat.le_refl _, Nat.le_refl _, rfl⟩ (fun i σ' H' ⟨_, _, _, _, _, _, s, _⟩ => s) ?_ ?_
    · rintro i x σ H4 H5 hi ⟨kvs, L, s4, s5, s6, rfl, sH, dk, hL, hk, hFv, hkl, hLl, hrun⟩ ⟨T0, x0, y0, rfl, hT0, rfl, ex0, hy0⟩
      cases ex0
      rw [hml] at hi
      have hy0 : (ls.map V.str)[i]? = some y0 := hy0
      rw [List.getElem?_map, List.getElem?_eq_getElem hi] at hy0
      cases hy0
      have hmem : ls[i] ∈ ls := List.getElem_mem hi
      obtain ⟨z1, z2⟩ := hx _ hmem
      rw [runFacts_drop hi] at hrun
      refine ⟨T0, _, rfl, SqT.of upd_same, rfl, _, _, rfl, _, _, rfl, rfl, ?_⟩
      have sT : Same H4 (upd H4 T0 (.tup [.int ((i : Nat) : Int), V.str ls[i]])) := Same.new (Same.refl H4) hT0
      generalize upd H4 T0 (.tup [.int ((i : Nat) : Int), V.str ls[i]]) = H5 at sT
      refine ⟨_, rfl, _, rfl, a, ls[i], tabs, rfl, z1, z2, hS.same (sH.trans sT), fun v H6 s56 hv => ?_⟩
      have s46 := sT.trans s56
      have sH6 := sH.trans s46
      rw [runFacts_cons] at hrun
      cases hw : readWords tabs (Txt.split ls[i] " ") with
      | none =>
        rw [hw] at hrun hv
        obtain rfl : v = .non := hv
        refine ⟨fun _ _ => False, ⟨_, rfl, rfl, _, rfl, iteT (iteT (raise i _ _ rfl sH6 hrun))⟩, fun _ _ z => z.elim⟩
      | some f =>
        rw [hw] at hrun hv
        obtain ⟨q, pv, gv, rfl, hq, p1, p2⟩ := hv
        have hff := words_goal hw
        refine ⟨fun σ2 H7 => ¬ Back L f ∧ σ2 = [some (.ref a), some (.ref l), some (.ref d), some (.ref wl), some (.int (i : Nat)), some (.str ls[i]), some (.ref q)] ∧ Same H6 H7, ⟨_, rfl, rfl, _, rfl, iteF ⟨_, rfl, _, rfl, q, wl, f, pv, gv, L, rfl, hq, p1, p2, hff, hL.same s46, by omega, sH6 _ _ hP, fun b H7 s67 hb => ⟨_, rfl, ?_⟩⟩⟩, ?_⟩
        · cases b with
          | true => exact iteT (raise i _ _ rfl (sH6.trans s67) (by rw [hrun]; exact if_pos (hb.mp rfl)))
          | false => exact iteF ⟨fun z => (by cases hb.mpr z), rfl, s67⟩
        · rintro σ2 H7 ⟨nb, rfl, s67⟩
          have hrun : runFacts tabs 0 [] ls = runFacts tabs (i + 1) (L ++ linkOf f) (ls.drop (i + 1)) := hrun.trans (if_neg nb)
          have s47 := s46.trans s67
          refine ⟨_, rfl, _, rfl, _, rfl, d, _, rfl, DPut.k (k := .inr ls[i]) (s47 _ _ dk) (small1000 (by omega)), ?_⟩
          obtain ⟨qs, el, pq⟩ := hL
          have hql : qs.length = L.length := Paired.length pq
          have d7 := s47 _ _ dk
          have el7 := s47 _ _ el
          have sHd : Same H (upd H7 d (.dK (putK kvs (.inr ls[i]) (.ref q)))) := Same.own (sH.trans s47) hd
          have kd : ∀ b xs, H7 b = some (.tup xs) → (upd H7 d (.dK (putK kvs (.inr ls[i]) (.ref q)))) b = some (.tup xs) := fun b xs e => by
            rw [upd_ne (fun z => by rw [z, d7] at e; cases e)]; exact e
          have ewd : (upd H7 d (.dK (putK kvs (.inr ls[i]) (.ref q)))) wl = some (.lst (qs.map V.ref)) := by rw [upd_ne (Ne.symm ndw)]; exact el7
          have edd : (upd H7 d (.dK (putK kvs (.inr ls[i]) (.ref q)))) d = some (.dK (putK kvs (.inr ls[i]) (.ref q))) := upd_same
          have hqd := kd _ _ (s67 _ _ hq)
          have p1d := (p1.same s67).keepT kd
          have p2d := (p2.same s67).keepT kd
          generalize upd H7 d (.dK (putK kvs (.inr ls[i]) (.ref q))) = H8 at sHd kd ewd edd hqd p1d p2d
          refine ⟨_, rfl, .inl ⟨rfl, _, SqL.of ewd⟩, _, rfl, (by show 1 ≤ sizeLine; decide), fun c Hc hc sc ec => ?_⟩
          refine ⟨c, q, f, pv, gv, rfl, SqL.of ec, sc _ _ hqd, p1d.same sc, p2d.same sc, hff, fun r Hr hr1 sr er => ?_⟩
          obtain ⟨acc, ea, eo⟩ := er
          have s8r := sc.trans sr
          have ewr := s8r _ _ ewd
          have kr : ∀ b xs, Hr b = some (.tup xs) → (upd Hr wl (.lst (qs.map V.ref ++ acc))) b = some (.tup xs) := fun b xs e => by
            rw [upd_ne (fun z => by rw [z, ewr] at e; cases e)]; exact e
          have hacc : acc.length ≤ 1 := by
            unfold OneL at eo
            split at eo
            · obtain ⟨z, e, _⟩ := eo
              rw [e]; exact Nat.le_refl _
            · rw [eo]; exact Nat.zero_le _
          refine ⟨wl, r, _, acc, rfl, rfl, ewr, ea, Nat.le_of_lt (small1000 (by rw [List.length_map]; omega)), ?_⟩
          have pq2 : Paired (fun q (p : Str × Str) => (upd Hr wl (.lst (qs.map V.ref ++ acc))) q = some (.tup [.str p.1, .str p.2])) qs L := Paired.mapP pq fun _ _ e => kr _ _ (s8r _ _ (kd _ _ (s47 _ _ e)))
          have links : LinksAt (upd Hr wl (.lst (qs.map V.ref ++ acc))) wl (L ++ linkOf f) ∧ (L ++ linkOf f).length ≤ i + 1 := by
            unfold OneL at eo
            by_cases ff : f.1 = ("found" : Str)
            · rw [if_pos (decide_eq_true ff)] at eo
              obtain ⟨z, e, e2⟩ := eo
              subst e
              have el : linkOf f = [(f.2.1.1, (f.2.2.map (·.1)).getD Str.empty)] := if_pos ff
              rw [el]
              refine ⟨⟨qs ++ [z], ?_, paired_snoc pq2 (kr _ _ e2)⟩, by rw [List.length_append, List.length_singleton]; omega⟩
              rw [upd_same, List.map_append]; rfl
            · rw [if_neg (by rw [decide_eq_false ff]; exact Bool.false_ne_true)] at eo
              subst eo
              have el : L ++ linkOf f = L := by
                have el : linkOf f = [] := if_neg ff
                rw [el]; exact List.append_nil L
              rw [el]
              refine ⟨⟨qs, ?_, pq2⟩, by omega⟩
              rw [upd_same, List.append_nil]
          refine ⟨putK kvs (.inr ls[i]) (.ref q), L ++ linkOf f, _, _, _, rfl, Same.own (sHd.trans s8r) hwH, by rw [upd_ne ndw]; exact s8r _ _ edd, links.1, ?_, (hFv.keepT fun _ _ e => kr _ _ (s8r _ _ (kd _ _ (s47 _ _ e)))).put hw (kr _ _ (s8r _ _ hqd)) ((p1d.same s8r).keepT kr) ((p2d.same s8r).keepT kr), Nat.le_trans putK_len (by omega), links.2, hrun⟩
          rw [putK_keys hk, List.take_add_one, List.getElem?_eq_getElem hi]
          show _ = (onces (ls.take i ++ [ls[i]])).map Sum.inr
          unfold onces
          rw [List.foldl_append]; rfl
    · rintro σ H4 ⟨kvs, L, s4, s5, s6, rfl, sH, dk, hL, hk, hFv, hkl, hLl, hrun⟩
      rw [hml] at hk hkl hLl hrun
      rw [List.drop_length] at hrun
      rw [List.take_length] at hk
      have hdH : H d = none := hd
      refine ⟨_, rfl, d, _, rfl, dk, trivial, fun o => ?_⟩
      refine kq L d o kvs _ hrun hdH (fun b u e => ?_) upd_same hk (hFv.keepT fun b xs e => by rw [upd_ne (fun z => by rw [z, dk] at e; cases e)]; exact e)
      have nb : b ≠ d := fun z => by rw [z, hdH] at e; cases e
      rw [upd_ne nb]
      exact sH _ _ e
end
end L2.Pf
set_option maxHeartbeats 2000000
namespace L2.Pf
open PySem PySem.Spec PyProof.Rows L2.Ev L2.Tpd L2.Seti L2.Gq L2.Enf L2.Sett L2.Itr L2.Dls L2.Own L2.Ent
section
variable {P : Program} {w : World} {K : PySem.W.Frag} {mg : Str → Option Value} {base : Heap}
/-- facts of these lines stand at a -/
def FactsAt (C CS : Addr) (tabs : Tabs) (H : Hp) (a : Addr) (ls : List Str) : Prop := ∃ dx d sc o kvs, H a = some (.ins C dx [("_schema", .ref sc), ("_facts", .ref d)]) ∧ H d = some (.frz o (.dK kvs)) ∧ kvs.map (·.1) = (onces ls).map Sum.inr ∧ FactsVals H tabs kvs ∧ SchemaAt CS H sc tabs
theorem FactsAt.same {C CS : Addr} {tabs : Tabs} {H H' : Hp} {a : Addr} {ls : List Str} (h : FactsAt C CS tabs H a ls) (s : Same H H') : FactsAt C CS tabs H' a ls := by
  obtain ⟨dx, d, sc, o, kvs, h1, h2, h3, h4, h5⟩ := h
  exact ⟨dx, d, sc, o, kvs, s _ _ h1, s _ _ h2, h3, h4.keepT (fun _ _ e => s _ _ e), h5.same s⟩
def sp_Facts_init (P CS CB C : Addr) : Sp := fun vs H Q E => ∃ (f dx a l : Addr) (ls : List Str) (tabs : Tabs), vs = [.ref f, .ref a, .ref l] ∧ H f = some (.ins C dx []) ∧ SchemaAt CS H a tabs ∧ (SqL K H l (ls.map V.str) ∨ SqT K H l (ls.map V.str)) ∧ ls.length ≤ 200 ∧
  (∀ x ∈ ls, x.length ≤ 10000 ∧ ∀ y ∈ Txt.split x " ", y.length ≤ 10000) ∧ H P = some (TabX P) ∧
  (∀ L H', runFacts tabs 0 [] ls = .ok L → But f H H' → FactsAt C CS tabs H' f ls → Q .non H') ∧
  (∀ i H' (dx : Addr), runFacts tabs 0 [] ls = .error i → But f H H' → H' dx = some (.xd [("index", .int (i : Nat))]) → E (.ref CB) (some dx) H')
theorem ok_Facts_init (T : TX K mg) (B : TB T base) : FnOk P w K mg base (L2.CX P w) 7 T.a_Facts_init T.fd_Facts_init p_Facts_init (sp_Facts_init (K := K) T.P_leads_back T.C_Schema T.x_BadFact.C T.C_Facts) := by
  refine Fun.okX T.F_Facts_init sc_Facts_init (fun vs H Q E h => ?_) (fun cdv A outer s H vs Q E hr h => ?_)
  · obtain ⟨f, dx, a, l, ls, tabs, rfl, _⟩ := h
    rfl
  · obtain ⟨f, dx, a, l, ls, tabs, rfl, hf, hS, hl, hn, hx, hP, kq, ke⟩ := h
    refine ⟨_, (pss_cons (ps_fld (pv 0) (pv 1) rfl)
  (pss_one (ps_fld (pv 0) (pe_call (ok_read_facts T B) (hr.mono (by decide)) rfl T.g_read_facts T.F_read_facts.kp T.b_read_facts .nil (L2.passes_call (E := E) (takes_of rfl rfl rfl rfl) (fun _ _ _ _ z => z)) (pa_cons (pv 1) (pa_cons (pv 2) pa_nil))) rfl))), ?_⟩
    refine ⟨_, rfl, _, rfl, f, T.C_Facts, dx, [], rfl, hf, T.cl_Facts, T.n_Facts__schema, (by decide), ?_⟩
    have k1 : ∀ b o, H b = some o → (∀ C dx, o ≠ .ins C dx []) → (upd H f (.ins T.C_Facts dx (putF "_schema" (.ref a) []))) b = some o := fun b o e no => by
      rw [upd_ne (fun z => by rw [z, hf] at e; cases e; exact no _ _ rfl)]; exact e
    have hf1 : (upd H f (.ins T.C_Facts dx (putF "_schema" (.ref a) []))) f = some (.ins T.C_Facts dx [("_schema", .ref a)]) := upd_same
    have b1 : But f H (upd H f (.ins T.C_Facts dx (putF "_schema" (.ref a) []))) := fun b o hb e => by rw [upd_ne hb]; exact e
    generalize upd H f (.ins T.C_Facts dx (putF "_schema" (.ref a) [])) = H1 at k1 hf1 b1
    have hS1 : SchemaAt T.C_Schema H1 a tabs := by
      obtain ⟨dx2, d, o, kvs, t, h1, h2, h3, h4⟩ := hS
      exact ⟨dx2, d, o, kvs, t, k1 _ _ h1 (fun _ _ z => by cases z), k1 _ _ h2 (fun _ _ z => by cases z), h3.keep (fun q o xs e => k1 _ _ e fun _ _ z => by cases z), k1 _ _ h4 (fun _ _ z => by cases z)⟩
    have hl1 : SqL K H1 l (ls.map V.str) ∨ SqT K H1 l (ls.map V.str) := by
      rcases hl with h | h
      · rcases h with (h | ⟨o, h⟩) | h
        · exact .inl (.inl (.inl (k1 _ _ h fun _ _ z => by cases z)))
        · exact .inl (.inl (.inr ⟨o, k1 _ _ h fun _ _ z => by cases z⟩))
        · exact .inl (.inr h)
      · rcases h with (h | ⟨o, h⟩) | h
        · exact .inr (.inl (.inl (k1 _ _ h fun _ _ z => by cases z)))
        · exact .inr (.inl (.inr ⟨o, k1 _ _ h fun _ _ z => by cases z⟩))
        · exact .inr (.inr h)
    have hP1 : H1 T.P_leads_back = some (TabX T.P_leads_back) := k1 _ _ hP fun _ _ z => by cases z
    refine ⟨_, rfl, _, rfl, a, l, ls, tabs, rfl, hS1, hl1, hn, hx, hP1, fun L d o kvs H2 er hd s12 e2 hk hFv => ?_, fun i H2 dx2 er s12 e2 => ke i H2 dx2 er (fun b o hb e => s12 _ _ (b1 b o hb e)) e2⟩
    have nfd : f ≠ d := fun z => by rw [← z, hf1] at hd; cases hd
    refine ⟨_, rfl, f, T.C_Facts, dx, _, rfl, s12 _ _ hf1, T.cl_Facts, T.n_Facts__facts, (show 1 < 1000 by decide), ?_⟩
    refine kq L _ er (fun b u hb e => ?_) ⟨dx, d, a, o, kvs, upd_same, ?_, hk, ?_, ?_⟩
    · rw [upd_ne hb]
      exact s12 _ _ (b1 _ _ hb e)
    · rw [upd_ne (Ne.symm nfd)]
      exact e2
    · exact hFv.keepT fun b xs e => by rw [upd_ne (fun z => by rw [z, s12 _ _ hf1] at e; cases e)]; exact e
    · obtain ⟨dx3, d3, o3, kvs3, t3, h1, h2, h3, h4⟩ := hS1.same s12
      have hf2 := s12 _ _ hf1
      have na : a ≠ f := fun z => by
        rw [z, hf2] at h1
        have e := Option.some.inj h1
        injection e with _ _ e3
        have l := congrArg List.length e3
        simp at l
      exact ⟨dx3, d3, o3, kvs3, t3, by rw [upd_ne na]; exact h1, by rw [upd_ne (fun z => by rw [z, hf2] at h2; cases h2)]; exact h2, h3.keep (fun q o xs e => by rw [upd_ne (fun z => by rw [z, hf2] at e; cases e)]; exact e), by rw [upd_ne (fun z => by rw [z, hf2] at h4; cases h4)]; exact h4⟩
end
end L2.Pf
set_option maxHeartbeats 2000000
namespace L2.Pf
open PySem PySem.Spec PyProof.Rows L2.Ev L2.Tpd L2.Seti L2.Gq L2.Enf L2.Sett L2.Itr L2.Dls L2.Own L2.Dsp
/-- a column of a table -/
abbrev CP := Str × Str
abbrev CL := List (CP × CP)
def cpV (H : Hp) (q : Addr) (p : CP) : Prop := H q = some (.tup [.str p.1, .str p.2])
def okCP (p : CP) : Prop := PyData.strOk p.1 = true ∧ PyData.strOk p.2 = true
def kT (p : CP) : List L2.Key := [.inr p.1, .inr p.2]
theorem kT_inj {p q : CP} (h : kT p = kT q) : p = q := by
  unfold kT at h
  injection h with h1 h2
  injection h2 with h2 _
  exact Prod.ext (Sum.inr.inj h1) (Sum.inr.inj h2)
theorem cpV_key {H : Hp} {q : Addr} {p : CP} (h : cpV H q p) : H q = some (.tup ((kT p).map kV)) := h
def CLinksAt (H : Hp) (l : Addr) (L : CL) : Prop := ∃ qs : List Addr, H l = some (.lst (qs.map V.ref)) ∧ Paired (fun q (p : CP × CP) => ∃ a b, H q = some (.tup [.ref a, .ref b]) ∧ cpV H a p.1 ∧ cpV H b p.2) qs L
theorem CLinksAt.same {H H' : Hp} {l : Addr} {L : CL} (h : CLinksAt H l L) (s : Same H H') : CLinksAt H' l L :=
  let ⟨qs, e, p⟩ := h; ⟨qs, s _ _ e, Paired.mapP p fun _ _ ⟨a, b, z1, z2, z3⟩ => ⟨a, b, s _ _ z1, s _ _ z2, s _ _ z3⟩⟩
def okCL (L : CL) : Prop := ∀ p ∈ L, okCP p.1 ∧ okCP p.2
/-- from x one comes to y -/
inductive RG (L : CL) (x : CP) : CP → Prop
  | here : RG L x x
  | step {y z : CP} : RG L x y → (y, z) ∈ L → RG L x z
theorem RG.ok {L : CL} {x y : CP} (h : RG L x y) (hx : okCP x) (hL : okCL L) : okCP y := by
  induction h with
  | here => exact hx
  | step _ m _ => exact (hL _ m).2
theorem RG.mono {L M : CL} {x y : CP} (h : RG L x y) (k : ∀ p ∈ L, p ∈ M) : RG M x y := by
  induction h with
  | here => exact .here
  | step _ m ih => exact .step ih (k _ m)
theorem RG.trans {L : CL} {x y z : CP} (h : RG L x y) (k : RG L y z) : RG L x z := by
  induction k with
  | here => exact h
  | step _ m ih => exact .step ih m
def keysT (kvs : List (List L2.Key × V)) (S : List CP) : Prop := kvs.map (·.1) = S.map kT
theorem keysT_val {kvs : List (List L2.Key × V)} {S : List CP} (h : keysT kvs S) (y : CP) : (valV kvs (kT y)).isSome = decide (y ∈ S) := by
  induction kvs generalizing S with
  | nil =>
    cases S with
    | nil => rfl
    | cons _ _ => cases h
  | cons a r ih =>
    cases S with
    | nil => cases h
    | cons b S =>
      unfold keysT at h
      rw [List.map_cons, List.map_cons] at h
      injection h with h1 h2
      have i := ih (S := S) h2
      unfold valV at i ⊢
      rw [List.find?_cons]
      by_cases e : b = y
      · subst e
        rw [decide_eq_true (show a.1 = kT b from h1)]
        simp
      · rw [decide_eq_false (show ¬ a.1 = kT y from fun z => e (kT_inj (h1.symm.trans z)))]
        rw [i]
        have e2 : ¬ y = b := fun z => e z.symm
        simp [e2]
theorem keysT_put {kvs : List (List L2.Key × V)} {S : List CP} (h : keysT kvs S) {y : CP} (hn : y ∉ S) (v : V) : putK kvs (kT y) v = kvs ++ [(kT y, v)] := by
  have z : (kvs.any fun kv => decide (kv.1 = kT y)) = false := by
    rw [List.any_eq_false]
    intro kv hk e
    have e : kv.1 = kT y := of_decide_eq_true e
    have m : kT y ∈ S.map kT := by
      rw [← h, ← e]; exact List.mem_map.mpr ⟨kv, hk, rfl⟩
    obtain ⟨u, hu, eu⟩ := List.mem_map.mp m
    exact hn (by rw [← kT_inj eu]; exact hu)
  unfold putK
  rw [z]; rfl
def openT (L : CL) (S : List CP) : Nat := (L.filter fun p => decide (p.2 ∉ S)).length
theorem openT_put {L : CL} {S : List CP} {p : CP × CP} (hp : p ∈ L) (hn : p.2 ∉ S) : openT L (S ++ [p.2]) < openT L S := by
  unfold openT
  induction L with
  | nil => cases hp
  | cons a r ih =>
    have le : ∀ r : CL, (r.filter fun p' => decide (p'.2 ∉ S ++ [p.2])).length ≤ (r.filter fun p' => decide (p'.2 ∉ S)).length := by
      intro r
      induction r with
      | nil => exact Nat.le_refl _
      | cons b r ih2 =>
        by_cases h1 : b.2 ∈ S
        · have h2 : b.2 ∈ S ++ [p.2] := List.mem_append_left _ h1
          simp only [List.filter_cons, h1, h2, not_true, decide_false, Bool.false_eq_true, if_false]
          exact ih2
        · by_cases h2 : b.2 ∈ S ++ [p.2]
          · simp only [List.filter_cons, h1, h2, not_true, not_false_eq_true, decide_false, decide_true, Bool.false_eq_true, if_false, if_true, List.length_cons]
            omega
          · simp only [List.filter_cons, h1, h2, not_false_eq_true, decide_true, if_true, List.length_cons]
            omega
    rcases List.mem_cons.mp hp with e | h
    · subst e
      have h2 : p.2 ∈ S ++ [p.2] := List.mem_append_right _ (List.mem_singleton.mpr rfl)
      have q := le r
      simp only [List.filter_cons, hn, h2, not_true, not_false_eq_true, decide_false, decide_true, Bool.false_eq_true, if_false, if_true, List.length_cons]
      omega
    · have q := ih h
      by_cases h1 : a.2 ∈ S
      · have h2 : a.2 ∈ S ++ [p.2] := List.mem_append_left _ h1
        simp only [List.filter_cons, h1, h2, not_true, decide_false, Bool.false_eq_true, if_false]
        exact q
      · by_cases h2 : a.2 ∈ S ++ [p.2]
        · simp only [List.filter_cons, h1, h2, not_true, not_false_eq_true, decide_false, decide_true, Bool.false_eq_true, if_false, if_true, List.length_cons]
          omega
        · simp only [List.filter_cons, h1, h2, not_false_eq_true, decide_true, if_true, List.length_cons]
          omega
/-- the data of a column's pair -/
def dCP (p : CP) : PyData := .tuple [.str p.1, .str p.2]
theorem dp_cp {K : PySem.W.Frag} {H : Hp} {q : Addr} {p : CP} (h : cpV H q p) : Dp K H (.ref q) (dCP p) := .tup (SqT.of h) (.cons (.str _) (.cons (.str _) .nil))
theorem shaped_cp {p : CP} (h : okCP p) : SeqAt.shaped (dCP p) = true := by
  unfold SeqAt.shaped dCP
  obtain ⟨a, b⟩ := h
  simp [PyData.canLay0, PyData.canLayAll0, PyData.depth, PyData.depthAll, a, b]
theorem eqv_cp {p q : CP} : PyData.eqv (dCP p) (dCP q) = decide (p = q) := by
  obtain ⟨a, b⟩ := p
  obtain ⟨c, d⟩ := q
  unfold dCP
  have k : ∀ x y : Str, (x == y) = decide (x = y) := fun x y => by
    by_cases h : x = y
    · subst h; simp
    · simp [h]
  simp [PyData.eqv, PyData.eqvAll, k]
end L2.Pf
set_option maxHeartbeats 2000000
namespace L2.Pf
open PySem PySem.Spec PyProof.Rows L2.Ev L2.Tpd L2.Seti L2.Gq L2.Enf L2.Sett L2.Itr L2.Dls L2.Own L2.Dsp
section
variable {P : Program} {w : World} {K : PySem.W.Frag} {mg : Str → Option Value} {base : Heap}
theorem paired_at {α β : Type} {F : α → β → Prop} {a : List α} {b : List β} {n : Nat} {q : α} {z : β} (h : Paired F a b) : a[n]? = some q → b[n]? = some z → F q z := by
  induction h generalizing n with
  | nil => intro e; cases e
  | cons g t ih =>
    intro e1 e2
    cases n with
    | zero => cases e1; cases e2; exact g
    | succ n => exact ih (by simpa using e1) (by simpa using e2)
theorem paired_snc {α β : Type} {F : α → β → Prop} {a : List α} {b : List β} {x : α} {y : β} (h : Paired F a b) (k : F x y) : Paired F (a ++ [x]) (b ++ [y]) := by
  induction h with
  | nil => exact .cons k .nil
  | cons g t ih => exact .cons g ih
theorem paired_unsnoc {α β : Type} {F : α → β → Prop} {b : List β} {y : β} : ∀ {a : List α}, Paired F a (b ++ [y]) → ∃ a0 x, a = a0 ++ [x] ∧ Paired F a0 b ∧ F x y := by
  induction b with
  | nil =>
    intro a h
    cases h with
    | cons g t => cases t; exact ⟨[], _, rfl, .nil, g⟩
  | cons z b ih =>
    intro a h
    cases h with
    | cons g t =>
      obtain ⟨a0, x, rfl, p, k⟩ := ih t
      exact ⟨_ :: a0, x, rfl, .cons g p, k⟩
def sp_reachedT : Sp := fun vs H Q _ => ∃ (x : CP) (qx l : Addr) (L : CL), vs = [.ref qx, .ref l] ∧ cpV H qx x ∧ okCP x ∧ CLinksAt H l L ∧ okCL L ∧ L.length ≤ 400 ∧
  ∀ d H' kvs S, H d = none → Same H H' → H' d = some (.dT kvs) → keysT kvs S → (∀ y, y ∈ S ↔ RG L x y) → Q (.ref d) H'
theorem ok_reachedT (T : TX K mg) (B : TB T base) : FnOk P w K mg base CX0 1 T.a_reached T.fd_reached p_reached sp_reachedT := by
  refine T.F_reached.ok sc_reached (fun vs H Q E h => ?_) (fun cdv A outer s H vs Q E hr h => ?_)
  · obtain ⟨x, qx, l, L, rfl, _⟩ := h
    rfl
  · obtain ⟨x, qx, l, L, rfl, hqx, hox, hL, hoL, hl4, k⟩ := h
    refine ⟨_, (pss_cons (ps_set (i := 2) sc_reached.nd rfl (Or.inl rfl) (pe_dispT (hu_of hr) (pv 0) pe_bl))
  (pss_cons (ps_set (i := 3) sc_reached.nd rfl (Or.inl rfl) (pe_lstS (pa_cons (pv 0) pa_nil)))
  (pss_cons (ps_while PassesOwn.never (pt_truth (pv 3) (by intro _; rfl)) (pss_cons (ps_set (i := 4) sc_reached.nd rfl (Or.inl rfl) (pe_bm0 PySem.F.plainAttrs_list PySem.F.slot_list_pop PySem.F.type_list_pop mt_pop (pv 3)))
  (pss_one (ps_for PassesOwn.never rfl (pi_list (pv 1)) (pg_tup rfl (pgs_cons (pg_name (i := 5) sc_reached.nd rfl (Or.inl rfl)) (pgs_cons (pg_name (i := 6) sc_reached.nd rfl (Or.inl rfl)) pgs_nil))) (pss_one (ps_if (PW.pt (pw_and (pt_cmpR (op_eqD hr.units) (pv 5) (pv 4) (nomark _)) (pw_and1 (pt_cmp (pc_dnotin (hu_of hr) (pv 6) (pv 2)))))) (pss_cons (ps_dput (hu_of hr) (pv 2) (pv 6) pe_bl rfl)
  (pss_one (ps_expr (pe_bm PySem.F.plainAttrs_list PySem.F.slot_list_append PySem.F.type_list_append mt_appendS (pv 3) (pa_cons (pv 6) pa_nil))))) pss_nil))))))
  (pss_one (ps_ret (pv 2)))))), ?_⟩
    intro d hd
    refine ⟨_, rfl, qx, kT x, rfl, by rw [upd_ne (fun z => by rw [← z] at hd; rw [show H qx = _ from hqx] at hd; cases hd)]; exact hqx, upd_same, ?_⟩
    have sd0 : Same H (upd (upd H d (.dT [])) d (.dT [(kT x, V.bl true)])) := Same.own (Same.own (Same.refl H) hd) hd
    have dd0 : (upd (upd H d (.dT [])) d (.dT [(kT x, V.bl true)])) d = some (.dT [(kT x, .bl true)]) := upd_same
    generalize upd (upd H d (.dT [])) d (.dT [(kT x, V.bl true)]) = H1 at sd0 dd0
    refine ⟨_, rfl, (by show 1 ≤ sizeLine; decide), fun wl H2 hw s12 ew => ?_⟩
    have s02 := sd0.trans s12
    have d2 := s12 _ _ dd0
    have hwH : H wl = none := sd0.free hw
    have ndw : d ≠ wl := fun z => by rw [← z, dd0] at hw; cases hw
    obtain ⟨qs, hl, hq⟩ := hL
    have hql : qs.length = L.length := Paired.length hq
    refine ⟨fun m σ H' => ∃ (kvs : List (List L2.Key × V)) (S Wt : List CP) (ws : List Addr) (s4 s5 s6 : Option V), σ = [some (.ref qx), some (.ref l), some (.ref d), some (.ref wl), s4, s5, s6] ∧ Same H H' ∧ H' d = some (.dT kvs) ∧ keysT kvs S ∧ H' wl = some (.lst (ws.map V.ref)) ∧ Paired (cpV H) ws Wt ∧
      m = 2 * openT L S + Wt.length ∧ Wt.length + openT L S ≤ 401 ∧ S.length + openT L S ≤ 401 ∧ (∀ y ∈ S, RG L x y) ∧ x ∈ S ∧ (∀ y ∈ Wt, y ∈ S) ∧ ∀ y z, y ∈ S → y ∉ Wt → (y, z) ∈ L → z ∈ S,
      ⟨_, [(kT x, .bl true)], [x], [x], [qx], none, none, none, rfl, s02, d2, rfl, ew, .cons hqx .nil, rfl, ?_, ?_, fun y hy => ?_, List.mem_singleton.mpr rfl, fun y hy => hy, fun y z hy hn => absurd hy hn⟩, ?_⟩
    · have q : openT L [x] ≤ L.length := List.length_filter_le _ _
      show 1 + openT L [x] ≤ 401
      omega
    · have q : openT L [x] ≤ L.length := List.length_filter_le _ _
      show 1 + openT L [x] ≤ 401
      omega
    · rw [List.mem_singleton.mp hy]; exact RG.here
    rintro m σ H' ⟨kvs, S, Wt, ws, s4, s5, s6, rfl, s0, dk, hk, hwt, hwp, rfl, b1, b2, hre, hx, hsub, hcl⟩
    refine ⟨_, rfl, _, .inl ⟨_, SqL.of hwt, rfl⟩, ?_⟩
    by_cases hne : Wt = []
    · subst hne
      cases hwp
      refine iteF ⟨_, rfl, k d H' kvs S hd s0 dk hk fun y => ⟨hre y, fun r => ?_⟩⟩
      induction r with
      | here => exact hx
      | step r1 hm ih => exact hcl _ _ ih (by simp) hm
    · obtain ⟨W0, here, rfl⟩ : ∃ a b, Wt = a ++ [b] := ⟨Wt.dropLast, Wt.getLast hne, (List.dropLast_concat_getLast hne).symm⟩
      obtain ⟨w0, qh, rfl, hw0, hqh⟩ := paired_unsnoc hwp
      have emp : ((w0 ++ [qh]).map V.ref).isEmpty = false := by rw [List.map_append]; simp
      rw [emp]
      have hlast : ((w0 ++ [qh]).map V.ref)[((w0 ++ [qh]).map V.ref).length - 1]? = some (V.ref qh) := by simp
      have hdrop : ((w0 ++ [qh]).map V.ref).dropLast = w0.map V.ref := by rw [List.map_append]; simp
      have hlenW : (W0 ++ [here]).length = W0.length + 1 := by simp
      refine iteT ⟨fun σ' H2 => ∃ m', m' < 2 * openT L S + (W0 ++ [here]).length ∧ ∃ (kvs : List (List L2.Key × V)) (S Wt : List CP) (ws : List Addr) (s4 s5 s6 : Option V), σ' = [some (.ref qx), some (.ref l), some (.ref d), some (.ref wl), s4, s5, s6] ∧ Same H H2 ∧ H2 d = some (.dT kvs) ∧ keysT kvs S ∧ H2 wl = some (.lst (ws.map V.ref)) ∧ Paired (cpV H) ws Wt ∧
        m' = 2 * openT L S + Wt.length ∧ Wt.length + openT L S ≤ 401 ∧ S.length + openT L S ≤ 401 ∧ (∀ y ∈ S, RG L x y) ∧ x ∈ S ∧ (∀ y ∈ Wt, y ∈ S) ∧ ∀ y z, y ∈ S → y ∉ Wt → (y, z) ∈ L → z ∈ S, fun σ' H2 z => z, ?_⟩
      refine ⟨_, rfl, .inl ⟨rfl, _, SqL.of hwt⟩, wl, _, _, rfl, rfl, hwt, hlast, ?_⟩
      rw [hdrop]
      have sw : Same H (upd H' wl (.lst (w0.map V.ref))) := Same.own s0 hwH
      have ww : (upd H' wl (.lst (w0.map V.ref))) wl = some (.lst (w0.map V.ref)) := upd_same
      have dw : (upd H' wl (.lst (w0.map V.ref))) d = some (.dT kvs) := by rw [upd_ne ndw]; exact dk
      generalize upd H' wl (.lst (w0.map V.ref)) = H3 at sw ww dw
      generalize hM : 2 * openT L S + (W0 ++ [here]).length = M at *
      have hM2 : 2 * openT L S + W0.length < M := by rw [← hM, hlenW]; omega
      have hhere : here ∈ S := hsub _ (List.mem_append_right _ (List.mem_singleton.mpr rfl))
      refine ⟨_, rfl, l, rfl, ⟨_, SqL.of (sw _ _ hl)⟩, fun i m2 σ H2 => ∃ (kvs : List (List L2.Key × V)) (S Wt : List CP) (ws : List Addr) (s5 s6 : Option V), σ = [some (.ref qx), some (.ref l), some (.ref d), some (.ref wl), some (.ref qh), s5, s6] ∧ m2 = L.length - i ∧ i ≤ L.length ∧ Same H H2 ∧ H2 d = some (.dT kvs) ∧ keysT kvs S ∧ H2 wl = some (.lst (ws.map V.ref)) ∧ Paired (cpV H) ws Wt ∧
        2 * openT L S + Wt.length < M ∧ Wt.length + openT L S ≤ 401 ∧ S.length + openT L S ≤ 401 ∧ (∀ y ∈ S, RG L x y) ∧ x ∈ S ∧ (∀ y ∈ Wt, y ∈ S) ∧ here ∈ S ∧ (∀ y z, y ∈ S → y ∉ Wt → y ≠ here → (y, z) ∈ L → z ∈ S) ∧ ∀ j p, j < i → L[j]? = some p → p.1 = here → p.2 ∈ S,
        ⟨_, kvs, S, W0, w0, s5, s6, rfl, rfl, Nat.zero_le _, sw, dw, hk, ww, hw0, hM2, by rw [hlenW] at b1; omega, b2, hre, hx, fun y hy => hsub y (List.mem_append_left _ hy), hhere, fun y z hy hn hh hm => hcl y z hy (fun q => ?_) hm, fun j p hj => absurd hj (Nat.not_lt_zero _)⟩, ?_⟩
      · rcases List.mem_append.mp q with q | q
        · exact hn q
        · exact hh (List.mem_singleton.mp q)
      clear hcl hre hx hsub hhere hM2 b1 b2 hk dw ww sw
      rintro i m2 σ H4 ⟨kvs, S, Wt, ws, s5, s6, rfl, rfl, hi, s4, dk, hk, hw4, hwp, hlt4, c1, c2, hre, hx, hsub, hhere, hcl, hdone⟩
      by_cases hlt : i < L.length
      · have hqi : i < qs.length := by omega
        obtain ⟨p, hp⟩ : ∃ p, L[i]? = some p := ⟨L[i], List.getElem?_eq_getElem hlt⟩
        obtain ⟨a1, c1', hpair, e2, e3⟩ := paired_at hq (List.getElem?_eq_getElem hqi) hp
        refine .inr ⟨⟨_, V.ref qs[i], SqL.of (s4 _ _ hl), by rw [List.getElem?_map, List.getElem?_eq_getElem hqi]; rfl⟩, fun σ H2 => ∃ (kvs : List (List L2.Key × V)) (S Wt : List CP) (ws : List Addr) (s5 s6 : Option V), σ = [some (.ref qx), some (.ref l), some (.ref d), some (.ref wl), some (.ref qh), s5, s6] ∧ Same H H2 ∧ H2 d = some (.dT kvs) ∧ keysT kvs S ∧ H2 wl = some (.lst (ws.map V.ref)) ∧ Paired (cpV H) ws Wt ∧
          2 * openT L S + Wt.length < M ∧ Wt.length + openT L S ≤ 401 ∧ S.length + openT L S ≤ 401 ∧ (∀ y ∈ S, RG L x y) ∧ x ∈ S ∧ (∀ y ∈ Wt, y ∈ S) ∧ here ∈ S ∧ (∀ y z, y ∈ S → y ∉ Wt → y ≠ here → (y, z) ∈ L → z ∈ S) ∧ ∀ j p, j < i + 1 → L[j]? = some p → p.1 = here → p.2 ∈ S,
          fun σ H2 ⟨kvs, S, Wt, ws, s5, s6, e1, e⟩ => ⟨L.length - (i + 1), by omega, kvs, S, Wt, ws, s5, s6, e1, rfl, hlt, e⟩, ?_⟩
        rintro v H5 ⟨rfl, hv⟩
        have hv := hv _ (SqL.of (s4 _ _ hl))
        rw [List.getElem?_map, List.getElem?_eq_getElem hqi] at hv
        cases hv
        have more : ∀ {S2 : List CP}, (∀ y ∈ S, y ∈ S2) → (p.1 = here → p.2 ∈ S2) → ∀ j p', j < i + 1 → L[j]? = some p' → p'.1 = here → p'.2 ∈ S2 := fun {S2} hS h1 j p' hj e eh => by
          by_cases hji : j = i
          · subst hji
            rw [hp] at e
            cases e
            exact h1 eh
          · exact hS _ (hdone j p' (by omega) e eh)
        refine ⟨qs[i], _, rfl, SqT.of (s4 _ _ hpair), rfl, _, _, rfl, _, _, rfl, rfl, ?_⟩
        have hoh : okCP here := (hre here hhere).ok hox hoL
        have hop1 : okCP p.1 := (hoL _ (List.mem_of_getElem? hp)).1
        refine ⟨_, rfl, _, rfl, dCP p.1, dCP here, dp_cp (s4 _ _ e2), dp_cp (s4 _ _ hqh), shaped_cp hop1, shaped_cp hoh, _, rfl, ?_⟩
        rw [eqv_cp]
        by_cases hst : p.1 = here
        · rw [decide_eq_true hst]
          refine iteT ⟨_, rfl, _, rfl, d, _, rfl, DGet.t (k := kT p.2) dk (cpV_key (s4 _ _ e3)), _, rfl, ?_⟩
          rw [keysT_val hk]
          by_cases hin : p.2 ∈ S
          · rw [decide_eq_true hin]
            exact iteF ⟨kvs, S, Wt, ws, _, _, rfl, s4, dk, hk, hw4, hwp, hlt4, c1, c2, hre, hx, hsub, hhere, hcl, more (fun _ z => z) fun _ => hin⟩
          · rw [decide_eq_false hin]
            have hpm : p ∈ L := List.mem_of_getElem? hp
            have hop := openT_put hpm hin
            have hkl : kvs.length = S.length := by
              have z := congrArg List.length hk
              rw [List.length_map, List.length_map] at z
              exact z
            have ew5 : (upd H5 d (.dT (putK kvs (kT p.2) (.bl true)))) wl = some (.lst (ws.map V.ref)) := by rw [upd_ne (Ne.symm ndw)]; exact hw4
            refine iteT ⟨_, rfl, _, rfl, d, _, rfl, DPut.t (k := kT p.2) dk (cpV_key (s4 _ _ e3)) (small1000 (by omega)), ?_⟩
            refine ⟨_, rfl, .inl ⟨rfl, _, SqL.of ew5⟩, _, rfl, wl, _, _, rfl, rfl, ew5, small1000 (by rw [List.length_map, Paired.length hwp]; omega), fun H6 b6 e6 => ?_⟩
            have d6 : H6 d = some (.dT (kvs ++ [(kT p.2, .bl true)])) := by
              rw [b6 d _ ndw upd_same, keysT_put hk hin]
            refine ⟨_, S ++ [p.2], Wt ++ [p.2], ws ++ [c1'], _, _, rfl, fun b o e => ?_, d6, ?_, by rw [e6, List.map_append]; rfl, paired_snc hwp e3, ?_, ?_, ?_, fun y hy => ?_, List.mem_append_left _ hx, fun y hy => ?_, List.mem_append_left _ hhere, fun y z hy hn hh hm => ?_, more (fun y hy => List.mem_append_left _ hy) fun _ => List.mem_append_right _ (List.mem_singleton.mpr rfl)⟩
            · have nb1 : b ≠ wl := fun z => by rw [z, hwH] at e; cases e
              have nb2 : b ≠ d := fun z => by rw [z, hd] at e; cases e
              exact b6 b o nb1 (by rw [upd_ne nb2]; exact s4 _ _ e)
            · unfold keysT at hk ⊢
              rw [List.map_append, List.map_append, hk]; rfl
            · rw [List.length_append, List.length_singleton]; omega
            · rw [List.length_append, List.length_singleton]; omega
            · rw [List.length_append, List.length_singleton]; omega
            · rcases List.mem_append.mp hy with h | h
              · exact hre y h
              · rw [List.mem_singleton.mp h]
                exact RG.step (hre here hhere) (by rw [← hst]; exact hpm)
            · rcases List.mem_append.mp hy with h | h
              · exact List.mem_append_left _ (hsub y h)
              · exact List.mem_append_right _ h
            · rcases List.mem_append.mp hy with h | h
              · exact List.mem_append_left _ (hcl y z h (fun q => hn (List.mem_append_left _ q)) hh hm)
              · exact absurd (List.mem_append_right _ h) hn
        · rw [decide_eq_false hst]
          exact iteF (iteF ⟨kvs, S, Wt, ws, _, _, rfl, s4, dk, hk, hw4, hwp, hlt4, c1, c2, hre, hx, hsub, hhere, hcl, more (fun _ z => z) fun z => absurd z hst⟩)
      · have hin : i = L.length := by omega
        subst hin
        refine .inl ⟨⟨_, SqL.of (s4 _ _ hl), by rw [List.length_map]; omega⟩, 2 * openT L S + Wt.length, hlt4, kvs, S, Wt, ws, _, _, _, rfl, s4, dk, hk, hw4, hwp, rfl, c1, c2, hre, hx, hsub, fun y z hy hn hm => ?_⟩
        by_cases hh : y = here
        · subst hh
          obtain ⟨j, hj, ej⟩ := List.getElem_of_mem hm
          exact hdone j (y, z) hj (by rw [List.getElem?_eq_getElem hj, ej]) rfl
        · exact hcl y z hy hn hh hm
end
end L2.Pf
set_option maxHeartbeats 2000000
namespace L2.Pf
open PySem PySem.Spec PyProof.Rows L2.Ev L2.Tpd L2.Seti L2.Gq L2.Enf L2.Sett L2.Itr L2.Dls L2.Own L2.Dsp
section
variable {P : Program} {w : World} {K : PySem.W.Frag} {mg : Str → Option Value} {base : Heap}
def FacV (H : Hp) (q : Addr) (f : Fact) : Prop := ∃ vp vg, H q = some (.tup [.str f.1, vp, vg]) ∧ PlV H (some f.2.1) vp ∧ PlV H f.2.2 vg
def FactsL (H : Hp) (l : Addr) (fs : List Fact) : Prop := ∃ qs : List Addr, H l = some (.lst (qs.map V.ref)) ∧ Paired (FacV H) qs fs
theorem FacV.same {H H' : Hp} {q : Addr} {f : Fact} (h : FacV H q f) (s : Same H H') : FacV H' q f :=
  let ⟨a, b, e, p1, p2⟩ := h; ⟨a, b, s _ _ e, p1.same s, p2.same s⟩
theorem FactsL.same {H H' : Hp} {l : Addr} {fs : List Fact} (h : FactsL H l fs) (s : Same H H') : FactsL H' l fs :=
  let ⟨qs, e, p⟩ := h; ⟨qs, s _ _ e, Paired.mapP p fun _ _ z => z.same s⟩
/-- facts as they are read: found leads from a column to a column -/
def WFf (f : Fact) : Prop := f.1 = ("found" : Str) → ∃ t c u e, f.2.1 = (t, some c) ∧ f.2.2 = some (u, some e) ∧ okCP (t, c) ∧ okCP (u, e)
def WFu (f : Fact) : Prop := f.1 = ("unique" : Str) → ∃ t c, f.2.1 = (t, some c) ∧ okCP (t, c)
def WF (fs : List Fact) : Prop := ∀ f ∈ fs, WFf f ∧ WFu f
def cpOf (p : Place) : CP := (p.1, p.2.getD Str.empty)
def linkC (f : Fact) : Option (CP × CP) := if f.1 = ("found" : Str) then some (cpOf f.2.1, cpOf (f.2.2.getD (Str.empty, none))) else none
def colL (fs : List Fact) : CL := fs.filterMap linkC
def tabL (fs : List Fact) : Links := (colL fs).map fun p => (p.1.1, p.2.1)
def placesL (fs : List Fact) (w : Str) : List Place := (fs.filter fun f => decide (f.1 = w)).map (·.2.1)
theorem colL_len (fs : List Fact) : (colL fs).length ≤ fs.length := List.length_filterMap_le _ _
theorem colL_ok {fs : List Fact} (h : WF fs) : okCL (colL fs) := fun p hp => by
  obtain ⟨f, hf, e⟩ := List.mem_filterMap.mp hp
  unfold linkC at e
  split at e
  · rename_i c
    obtain ⟨t, y, u, z, e1, e2, o1, o2⟩ := (h f hf).1 c
    cases e
    rw [e1, e2]
    exact ⟨o1, o2⟩
  · cases e
theorem take_succ_map {α β : Type} {f : α → Option β} {l : List α} {i : Nat} (h : i < l.length) : (l.take (i + 1)).filterMap f = (l.take i).filterMap f ++ (f l[i]).toList := by
  rw [List.take_add_one, List.getElem?_eq_getElem h, List.filterMap_append]
  congr 1
def CPair (H : Hp) (q : Addr) (p : CP × CP) : Prop := ∃ a b, H q = some (.tup [.ref a, .ref b]) ∧ cpV H a p.1 ∧ cpV H b p.2
theorem CPair.keep {H H' : Hp} {q : Addr} {p : CP × CP} (h : CPair H q p) (k : ∀ q xs, H q = some (.tup xs) → H' q = some (.tup xs)) : CPair H' q p :=
  let ⟨a, b, e, z1, z2⟩ := h; ⟨a, b, k _ _ e, k _ _ z1, k _ _ z2⟩
theorem tups_keep {H : Hp} {D : Addr} {o : HO} (h : ∃ u, H D = some (.lst u)) : ∀ q xs, H q = some (.tup xs) → (upd H D o) q = some (.tup xs) := fun q xs e => by
  obtain ⟨u, hu⟩ := h
  rw [upd_ne (fun z => by rw [z, hu] at e; cases e)]; exact e
def sp_column_linksN : Sp := fun vs H Q _ => ∃ (l : Addr) (fs : List Fact), vs = [.ref l] ∧ FactsL H l fs ∧ WF fs ∧ fs.length ≤ 100 ∧ ∀ r H', H r = none → Same H H' → CLinksAt H' r (colL fs) → Q (.ref r) H'
theorem ok_column_linksN (T : TX K mg) (B : TB T base) : FnOk P w K mg base CX0 1 T.a_column_links T.fd_column_links p_column_links sp_column_linksN := by
  refine T.F_column_links.ok sc_column_links (fun vs H Q E h => ?_) (fun cdv A outer s H vs Q E hr h => ?_)
  · obtain ⟨l, fs, rfl, _⟩ := h
    rfl
  · obtain ⟨l, fs, rfl, ⟨qs, hl, hq⟩, hW, h100, k⟩ := h
    have hql := Paired.length hq
    refine ⟨_, (pss_one (ps_ret (pe_lc (own := [("word", 1), ("place", 2), ("goal", 3)]) (g := gTup K 3 (gCons (gName 1) (gCons (gName 2) (gCons (gName 3) gNil)))) (tt := _) rfl sc_column_links.nd (pi_list (pv 0)) (blkOk_by (own := [("word", 1), ("place", 2), ("goal", 3)]) (N := n_column_links) (sc := defScope s_column_links) (by decide +kernel)) (fun _ _ _ _ _ => (pg_tup rfl (pgs_cons (pg_name (i := 1) sc_column_links.nd rfl (Or.inl rfl)) (pgs_cons (pg_name (i := 2) sc_column_links.nd rfl (Or.inl rfl)) (pgs_cons (pg_name (i := 3) sc_column_links.nd rfl (Or.inl rfl)) pgs_nil))))) (fun _ _ _ _ _ => pts_one (pt_cmpR op_eq (pv 1) pe_str (nomark _))) (fun _ _ _ _ _ => (pe_tupS (pa_cons (pv 2) (pa_cons (pv 3) pa_nil))))))), ?_⟩
    refine ⟨_, rfl, l, rfl, ⟨_, SqL.of hl⟩, fun D hD => ?_⟩
    refine lc_grow (n := fs.length) hD (fun i acc H' => ∃ ps : List Addr, acc = ps.map V.ref ∧ Paired (CPair H') ps (colL (fs.take i))) (fun i acc H' o ⟨ps, e, h⟩ hu => ⟨ps, e, Paired.mapP h fun q p z => z.keep (tups_keep hu)⟩) (fun _ _ => ⟨[], rfl, .nil⟩)
      (fun i H' hi s1 => ⟨_, V.ref (qs[i]'(by omega)), SqL.of (s1 _ _ hl), by rw [List.getElem?_map, List.getElem?_eq_getElem (by omega)]; rfl⟩) (fun H' s1 => ⟨_, SqL.of (s1 _ _ hl), by rw [List.length_map]; omega⟩) (small1000 (by omega)) (fun i acc H' F G hF hG hi s1 hacc hp v H2 yl => ?_) (fun acc H' s1 ha ⟨ps, e, hps⟩ => ?_)
    · obtain ⟨ps, rfl, hps⟩ := hp
      obtain ⟨eH, ev⟩ := yl
      subst eH
      have ev := ev _ (SqL.of (s1 _ _ hl))
      rw [List.getElem?_map, List.getElem?_eq_getElem (show i < qs.length by omega)] at ev
      cases ev
      obtain ⟨vp, vg, e1, e2, e3⟩ := paired_at hq (List.getElem?_eq_getElem (show i < qs.length by omega)) (List.getElem?_eq_getElem hi)
      refine ⟨_, _, rfl, SqT.of (s1 _ _ e1), rfl, _, _, rfl, _, _, rfl, _, _, rfl, rfl, rfl, ?_⟩
      refine ⟨_, rfl, rfl, _, rfl, ?_⟩
      have es : colL (fs.take (i + 1)) = colL (fs.take i) ++ (linkC fs[i]).toList := take_succ_map hi
      by_cases f : fs[i].1 = ("found" : Str)
      · rw [decide_eq_true (show V.str fs[i].1 = V.str ("found" : Str) by rw [f])]
        obtain ⟨t, c, u, e, z1, z2, _, _⟩ := (hW _ (List.getElem_mem hi)).1 f
        have el : linkC fs[i] = some ((t, c), (u, e)) := by
          unfold linkC
          rw [if_pos f, z1, z2]; rfl
        rw [z1] at e2
        rw [z2] at e3
        obtain ⟨a, rfl, ea⟩ := e2
        obtain ⟨b, rfl, eb⟩ := e3
        refine iteT ⟨_, rfl, _, rfl, (by show 2 ≤ sizeLine; decide), fun r H3 hr3 s3 e4 => hF _ H3 s3 ⟨ps ++ [r], by rw [List.map_append]; rfl, ?_⟩⟩
        rw [es, el]
        exact paired_snc (Paired.mapP hps fun q p z => z.keep (fun _ _ e => s3 _ _ e)) ⟨a, b, e4, s3 _ _ (s1 _ _ ea), s3 _ _ (s1 _ _ eb)⟩
      · rw [decide_eq_false (show ¬ V.str fs[i].1 = V.str ("found" : Str) from fun z => f (V.str.inj z))]
        refine iteF (hG _ (Same.refl _) ⟨ps, rfl, ?_⟩)
        have el : linkC fs[i] = none := by unfold linkC; rw [if_neg f]
        rw [es, el, Option.toList_none, List.append_nil]
        exact hps
    · rw [List.take_length] at hps
      subst e
      exact k D H' hD s1 ⟨ps, ha, hps⟩
def sp_table_linksN : Sp := fun vs H Q _ => ∃ (l : Addr) (fs : List Fact), vs = [.ref l] ∧ FactsL H l fs ∧ WF fs ∧ fs.length ≤ 100 ∧ ∀ r H', H r = none → Same H H' → LinksAt H' r (tabL fs) → Q (.ref r) H'
theorem ok_table_linksN (T : TX K mg) (B : TB T base) : FnOk P w K mg base CX0 2 T.a_table_links T.fd_table_links p_table_links sp_table_linksN := by
  refine T.F_table_links.ok sc_table_links (fun vs H Q E h => ?_) (fun cdv A outer s H vs Q E hr h => ?_)
  · obtain ⟨l, fs, rfl, _⟩ := h
    rfl
  · obtain ⟨l, fs, rfl, hF, hW, h100, k⟩ := h
    refine ⟨_, (pss_one (ps_ret (pe_lc (own := [("place", 1), ("goal", 2)]) (g := gTup K 2 (gCons (gName 1) (gCons (gName 2) gNil))) (tt := tYes) rfl sc_table_links.nd (pi_list (pe_call (ok_column_linksN T B) (hr.mono (by decide)) rfl T.g_column_links T.F_column_links.kp T.b_column_links .nil pass0 (pa_cons (pv 0) pa_nil))) (blkOk_by (own := [("place", 1), ("goal", 2)]) (N := n_table_links) (sc := defScope s_table_links) (by decide +kernel)) (fun _ _ _ _ _ => (pg_tup rfl (pgs_cons (pg_name (i := 1) sc_table_links.nd rfl (Or.inl rfl)) (pgs_cons (pg_name (i := 2) sc_table_links.nd rfl (Or.inl rfl)) pgs_nil)))) (fun _ _ _ _ _ => pts_nil) (fun _ _ _ _ _ => (pe_tupS (pa_cons (pe_ix (ix_tupK (K := K)) (pv 1) pe_int (fun _ _ => rfl)) (pa_cons (pe_ix (ix_tupK (K := K)) (pv 2) pe_int (fun _ _ => rfl)) pa_nil))))))), ?_⟩
    refine ⟨_, rfl, l, fs, rfl, hF, hW, h100, fun c Hc hc sc ⟨qs, hl, hq⟩ => ?_⟩
    have hql := Paired.length hq
    have hcl := colL_len fs
    refine ⟨c, rfl, ⟨_, SqL.of hl⟩, fun D hD => ?_⟩
    refine lc_grow (n := (colL fs).length) hD (fun i acc H' => ∃ ps : List Addr, acc = ps.map V.ref ∧ Paired (fun q (p : Str × Str) => H' q = some (.tup [.str p.1, .str p.2])) ps (((colL fs).take i).map fun p => (p.1.1, p.2.1))) (fun i acc H' o ⟨ps, e, h⟩ hu => ⟨ps, e, Paired.mapP h fun q p z => tups_keep hu _ _ z⟩) (fun _ _ => ⟨[], rfl, .nil⟩)
      (fun i H' hi s1 => ⟨_, V.ref (qs[i]'(by omega)), SqL.of (s1 _ _ hl), by rw [List.getElem?_map, List.getElem?_eq_getElem (by omega)]; rfl⟩) (fun H' s1 => ⟨_, SqL.of (s1 _ _ hl), by rw [List.length_map]; omega⟩) (small1000 (by omega)) (fun i acc H' F G hF hG hi s1 hacc hp v H2 yl => ?_) (fun acc H' s1 ha ⟨ps, e, hps⟩ => ?_)
    · obtain ⟨ps, rfl, hps⟩ := hp
      obtain ⟨eH, ev⟩ := yl
      subst eH
      have ev := ev _ (SqL.of (s1 _ _ hl))
      rw [List.getElem?_map, List.getElem?_eq_getElem (show i < qs.length by omega)] at ev
      cases ev
      obtain ⟨a, b, e1, e2, e3⟩ := paired_at hq (List.getElem?_eq_getElem (show i < qs.length by omega)) (List.getElem?_eq_getElem hi)
      refine ⟨_, _, rfl, SqT.of (s1 _ _ e1), rfl, _, _, rfl, _, _, rfl, rfl, rfl, ?_⟩
      refine ⟨_, rfl, a, _, 0, _, rfl, rfl, SqT.of (s1 _ _ e2), atI_nat (k := 0) rfl, _, rfl, b, _, 0, _, rfl, rfl, SqT.of (s1 _ _ e3), atI_nat (k := 0) rfl, (by show 2 ≤ sizeLine; decide), fun r H3 hr3 s3 e4 => hF _ H3 s3 ⟨ps ++ [r], by rw [List.map_append]; rfl, ?_⟩⟩
      rw [List.take_add_one, List.getElem?_eq_getElem hi, List.map_append]
      exact paired_snc (Paired.mapP hps fun q p z => s3 _ _ z) e4
    · rw [List.take_length] at hps
      subst e
      exact k D H' (by
        rcases hx : H D with _ | o
        · rfl
        · rw [sc _ _ hx] at hD; cases hD) (sc.trans s1) ⟨ps, ha, hps⟩
def PlacesAt (H : Hp) (r : Addr) (ps : List Place) : Prop := ∃ qs : List Addr, H r = some (.lst (qs.map V.ref)) ∧ Paired (fun q (p : Place) => H q = some (.tup [.str p.1, colV p.2])) qs ps
def sp_places_of : Sp := fun vs H Q _ => ∃ (l : Addr) (w : Str) (fs : List Fact), vs = [.ref l, .str w] ∧ FactsL H l fs ∧ fs.length ≤ 100 ∧ ∀ r H', H r = none → Same H H' → PlacesAt H' r (placesL fs w) → Q (.ref r) H'
theorem ok_places_of (T : TX K mg) (B : TB T base) : FnOk P w K mg base CX0 1 T.a_places_of T.fd_places_of p_places_of sp_places_of := by
  refine T.F_places_of.ok sc_places_of (fun vs H Q E h => ?_) (fun cdv A outer s H vs Q E hr h => ?_)
  · obtain ⟨l, w, fs, rfl, _⟩ := h
    rfl
  · obtain ⟨l, w, fs, rfl, ⟨qs, hl, hq⟩, h100, k⟩ := h
    have hql := Paired.length hq
    refine ⟨_, (pss_one (ps_ret (pe_lc (own := [("own", 2), ("place", 3), ("_", 4)]) (g := gTup K 3 (gCons (gName 2) (gCons (gName 3) (gCons (gName 4) gNil)))) (tt := _) rfl sc_places_of.nd (pi_list (pv 0)) (blkOk_by (own := [("own", 2), ("place", 3), ("_", 4)]) (N := n_places_of) (sc := defScope s_places_of) (by decide +kernel)) (fun _ _ _ _ _ => (pg_tup rfl (pgs_cons (pg_name (i := 2) sc_places_of.nd rfl (Or.inl rfl)) (pgs_cons (pg_name (i := 3) sc_places_of.nd rfl (Or.inl rfl)) (pgs_cons (pg_name (i := 4) sc_places_of.nd rfl (Or.inl rfl)) pgs_nil))))) (fun _ _ _ _ _ => pts_one (pt_cmpR op_eq (pv 2) (pv 1) (nomark _))) (fun _ _ _ _ _ => (pv 3))))), ?_⟩
    refine ⟨_, rfl, l, rfl, ⟨_, SqL.of hl⟩, fun D hD => ?_⟩
    refine lc_grow (n := fs.length) hD (fun i acc H' => ∃ ps : List Addr, acc = ps.map V.ref ∧ Paired (fun q (p : Place) => H q = some (.tup [.str p.1, colV p.2])) ps (placesL (fs.take i) w)) (fun i acc H' o h hu => h) (fun _ _ => ⟨[], rfl, .nil⟩)
      (fun i H' hi s1 => ⟨_, V.ref (qs[i]'(by omega)), SqL.of (s1 _ _ hl), by rw [List.getElem?_map, List.getElem?_eq_getElem (by omega)]; rfl⟩) (fun H' s1 => ⟨_, SqL.of (s1 _ _ hl), by rw [List.length_map]; omega⟩) (small1000 (by omega)) (fun i acc H' F G hF hG hi s1 hacc hp v H2 yl => ?_) (fun acc H' s1 ha ⟨ps, e, hps⟩ => ?_)
    · obtain ⟨ps, rfl, hps⟩ := hp
      obtain ⟨eH, ev⟩ := yl
      subst eH
      have ev := ev _ (SqL.of (s1 _ _ hl))
      rw [List.getElem?_map, List.getElem?_eq_getElem (show i < qs.length by omega)] at ev
      cases ev
      obtain ⟨vp, vg, e1, ⟨a, rfl, e2⟩, e3⟩ := paired_at hq (List.getElem?_eq_getElem (show i < qs.length by omega)) (List.getElem?_eq_getElem hi)
      refine ⟨_, _, rfl, SqT.of (s1 _ _ e1), rfl, _, _, rfl, _, _, rfl, _, _, rfl, rfl, rfl, ?_⟩
      refine ⟨_, rfl, _, rfl, rfl, _, rfl, ?_⟩
      have es : placesL (fs.take (i + 1)) w = placesL (fs.take i) w ++ if decide (fs[i].1 = w) = true then [fs[i].2.1] else [] := by
        unfold placesL
        rw [List.take_add_one, List.getElem?_eq_getElem hi, List.filter_append, List.map_append]
        congr 1
        show List.map _ (List.filter _ [fs[i]]) = _
        rw [List.filter_cons]
        split <;> rfl
      have eq : decide (V.str fs[i].1 = V.str w) = decide (fs[i].1 = w) := by
        by_cases h : fs[i].1 = w
        · rw [decide_eq_true h, decide_eq_true (by rw [h])]
        · rw [decide_eq_false h, decide_eq_false (fun z => h (V.str.inj z))]
      rw [eq]
      cases c : decide (fs[i].1 = w) with
      | true =>
        refine iteT ⟨_, rfl, hF _ _ (Same.refl _) ⟨ps ++ [a], by rw [List.map_append]; rfl, ?_⟩⟩
        rw [es, c]
        exact paired_snc hps e2
      | false =>
        refine iteF (hG _ (Same.refl _) ⟨ps, rfl, ?_⟩)
        rw [es, c, if_neg (by decide), List.append_nil]
        exact hps
    · rw [List.take_length] at hps
      subst e
      exact k D H' hD s1 ⟨ps, ha, Paired.mapP hps fun q p z => s1 _ _ z⟩
end
end L2.Pf
set_option maxHeartbeats 2000000
namespace L2.Pf
open PySem PySem.Spec PyProof.Rows L2.Ev L2.Tpd L2.Seti L2.Gq L2.Enf L2.Sett L2.Itr L2.Dls L2.Own L2.Dsp
theorem pi_keysF {X : Cx} {tg e : Expr} {t : TE} (h : PE X e t) : PI X tg e (iKeys (tFrz t)) := pi_keys (pe_frz h)
section
variable {P : Program} {w : World} {K : PySem.W.Frag} {mg : Str → Option Value} {base : Heap}
/-- a column has at most one value, as far as the tables S have one row at most -/
def ConstS (fs : List Fact) (S : List Str) (x : CP) : Prop := ∃ y, RG (colL fs) x y ∧ y.1 ∈ S
def sp_is_constant (PA : Addr) : Sp := fun vs H Q _ => ∃ (l dl qx : Addr) (fs : List Fact) (S : List Str) (kvs : List (L2.Key × V)) (x : CP), vs = [.ref l, .ref dl, .ref qx] ∧ FactsL H l fs ∧ WF fs ∧ fs.length ≤ 100 ∧ H dl = some (.dK kvs) ∧ keysIs kvs S ∧ cpV H qx x ∧ okCP x ∧ H PA = some (TabX PA) ∧
  ∀ (b : Bool) H', Same H H' → (b = true ↔ ConstS fs S x) → Q (.bl b) H'
theorem ok_is_constant (T : TX K mg) (B : TB T base) : FnOk P w K mg base CX0 3 T.a_is_constant T.fd_is_constant p_is_constant (sp_is_constant T.P_is_constant) := by
  classical
  refine Fun.okC T.F_is_constant T.t_is_constant sc_is_constant (fun vs H Q E h => ?_) (fun A outer s H vs Q E hr h => ?_)
  · obtain ⟨l, dl, qx, fs, S, kvs, x, rfl, _⟩ := h
    rfl
  · obtain ⟨l, dl, qx, fs, S, kvs, x, rfl, hF, hW, h100, hd, hk, hx, hox, hP, k⟩ := h
    refine ⟨_, (pss_one (ps_ret (pe_anyQ (own := [("table", 3), ("_", 4)]) (gt := gTup K 2 (gCons (gName 3) (gCons (gName 4) gNil))) (tt := tYes) hr (by rfl) T.z_any  B.b_is_constant rfl ⟨blkOk_by (own := [("table", 3), ("_", 4)]) (N := n_is_constant) (sc := defScope s_is_constant) (by decide +kernel), rfl, by decide +kernel, rfl⟩ sc_is_constant.nd (pi_keysF (pe_call (ok_reachedT T B) (hr.mono (by decide)) rfl T.g_reached T.F_reached.kp T.b_reached .nil pass0 (pa_cons (pv 2) (pa_cons (pe_call (ok_column_linksN T B) (hr.mono (by decide)) rfl T.g_column_links T.F_column_links.kp T.b_column_links .nil pass0 (pa_cons (pv 0) pa_nil)) pa_nil)))) (fun _ _ _ _ _ _ _ hr => (pg_tup rfl (pgs_cons (pg_name (i := 3) sc_is_constant.nd rfl (Or.inl rfl)) (pgs_cons (pg_name (i := 4) sc_is_constant.nd rfl (Or.inl rfl)) pgs_nil)))) (fun _ _ _ _ _ _ _ hr => pts_nil) (fun _ _ _ _ _ _ _ hr => (pe_cmp (pc_din (hu_of hr) (pv 3) (pv 1))))))), ?_⟩
    have hcl := colL_len fs
    refine ⟨_, rfl, _, rfl, l, fs, rfl, hF, hW, h100, fun r Hr hr1 sr hL => ?_⟩
    refine ⟨x, qx, r, colL fs, rfl, sr _ _ hx, hox, hL, colL_ok hW, by omega, fun d H1 kvT SR hdn s1 e1 hkT hR => ?_⟩
    refine ⟨d, _, rfl, e1, True.intro, fun o => ?_⟩
    have hdH : H d = none := by
      rcases hx : H d with _ | u
      · rfl
      · rw [sr _ _ hx] at hdn; cases hdn
    have s02 : Same H (upd H1 d (.frz o (.dT kvT))) := Same.own (sr.trans s1) hdH
    have e2 : (upd H1 d (.frz o (.dT kvT))) d = some (.frz o (.dT kvT)) := upd_same
    generalize upd H1 d (.frz o (.dT kvT)) = H2 at s02 e2
    refine ⟨d, o, rfl, .inr ⟨kvT, e2, s02 _ _ hP, ?_⟩⟩
    have hkl : kvT.length = SR.length := by
      have z := congrArg List.length hkT
      simpa using z
    have key : ∀ {i : Nat} {kk : List L2.Key} {v : V} (hi : i < SR.length), kvT[i]? = some (kk, v) → kk = kT SR[i] := fun {i kk v} hi e => by
      have z := congrArg (fun l => l[i]?) hkT
      simp only [List.getElem?_map, e, List.getElem?_eq_getElem hi, Option.map_some] at z
      exact Option.some.inj z
    refine q_turns (n := SR.length) (fun i => decide (∃ h : i < SR.length, SR[i].1 ∈ S)) (fun _ H4 => Same H2 H4) (Same.refl _) (fun H4 s4 => ⟨s4 _ _ e2, by omega⟩) (fun i H4 hi s4 => ⟨s4 _ _ e2, by omega⟩)
      (fun i v H4 H5 Qc hi s4 y hq2 => ?_) (fun H4 s4 hf => k _ H4 (s02.trans s4) ?_) (fun i H4 hi s4 hf hb => k _ H4 (s02.trans s4) ?_)
    · obtain ⟨eH, kk, vv, q, ek, ev, eq⟩ := y
      subst eH ev
      rw [key hi ek] at eq
      have eq : H5 q = some (.tup [.str SR[i].1, .str SR[i].2]) := eq
      refine ⟨q, _, rfl, SqT.of eq, rfl, _, _, rfl, _, _, rfl, rfl, rfl, ?_⟩
      refine ⟨_, rfl, _, rfl, dl, _, rfl, DGet.k (k := .inr SR[i].1) (s4 _ _ (s02 _ _ hd)), ?_⟩
      rw [keys_val hk]
      have e9 : decide (SR[i].1 ∈ S) = decide (∃ h : i < SR.length, SR[i].1 ∈ S) := decide_eq_decide.mpr ⟨fun z => ⟨hi, z⟩, fun ⟨_, z⟩ => z⟩
      rw [e9]
      exact hq2 H5 s4
    · refine ⟨fun z => (by cases z), fun ⟨y, hy, hm⟩ => ?_⟩
      obtain ⟨j, hj, ej⟩ := List.getElem_of_mem ((hR y).mpr hy)
      have z := hf j hj
      rw [decide_eq_true ⟨hj, by rw [ej]; exact hm⟩] at z
      cases z
    · obtain ⟨_, z⟩ := of_decide_eq_true hf
      exact ⟨fun _ => ⟨SR[i], (hR _).mp (List.getElem_mem hi), z⟩, fun _ => rfl⟩
/-- a table has a row for sure -/
def Filled (fs : List Fact) (t : Str) : Prop := ∃ f ∈ fs, f.1 = ("filled" : Str) ∧ Reach (tabL fs) f.2.1.1 t
def sp_is_filled (PA : Addr) : Sp := fun vs H Q _ => ∃ (l : Addr) (t : Str) (fs : List Fact), vs = [.ref l, .str t] ∧ FactsL H l fs ∧ WF fs ∧ fs.length ≤ 100 ∧ H PA = some (TabX PA) ∧
  ∀ (b : Bool) H', Same H H' → (b = true ↔ Filled fs t) → Q (.bl b) H'
theorem places_mem {fs : List Fact} {w : Str} {p : Place} : p ∈ placesL fs w ↔ ∃ f ∈ fs, f.1 = w ∧ f.2.1 = p := by
  unfold placesL
  rw [List.mem_map]
  exact ⟨fun ⟨f, hf, e⟩ => ⟨f, (List.mem_filter.mp hf).1, of_decide_eq_true (List.mem_filter.mp hf).2, e⟩, fun ⟨f, hf, e1, e2⟩ => ⟨f, List.mem_filter.mpr ⟨hf, decide_eq_true e1⟩, e2⟩⟩
theorem placesL_len (fs : List Fact) (w : Str) : (placesL fs w).length ≤ fs.length := by
  unfold placesL
  rw [List.length_map]
  exact List.length_filter_le _ _
theorem ok_is_filled (T : TX K mg) (B : TB T base) : FnOk P w K mg base CX0 4 T.a_is_filled T.fd_is_filled p_is_filled (sp_is_filled T.P_is_filled) := by
  classical
  refine Fun.okC T.F_is_filled T.t_is_filled sc_is_filled (fun vs H Q E h => ?_) (fun A outer s H vs Q E hr h => ?_)
  · obtain ⟨l, t, fs, rfl, _⟩ := h
    rfl
  · obtain ⟨l, t, fs, rfl, hF, hW, h100, hP, k⟩ := h
    refine ⟨_, (pss_cons (ps_set (i := 2) sc_is_filled.nd rfl (Or.inr rfl) (pe_call (ok_table_linksN T B) (hr.mono (by decide)) rfl T.g_table_links T.F_table_links.kp T.b_table_links .nil pass0 (pa_cons (pv 0) pa_nil)))
  (pss_one (ps_ret (pe_anyQ (own := [("filled", 3), ("_", 4)]) (gt := gTup K 2 (gCons (gName 3) (gCons (gName 4) gNil))) (tt := tYes) hr (by rfl) T.z_any  B.b_is_filled rfl ⟨blkOk_by (own := [("filled", 3), ("_", 4)]) (N := n_is_filled) (sc := defScope s_is_filled) (by decide +kernel), rfl, by decide +kernel, rfl⟩ sc_is_filled.nd (pi_list (pe_call (ok_places_of T B) (hr.mono (by decide)) rfl T.g_places_of T.F_places_of.kp T.b_places_of .nil pass0 (pa_cons (pv 0) (pa_cons pe_str pa_nil)))) (fun _ _ _ _ _ _ _ hr => (pg_tup rfl (pgs_cons (pg_name (i := 3) sc_is_filled.nd rfl (Or.inl rfl)) (pgs_cons (pg_name (i := 4) sc_is_filled.nd rfl (Or.inl rfl)) pgs_nil)))) (fun _ _ _ _ _ _ _ hr => pts_nil) (fun _ _ _ _ _ _ _ hr => (pe_cmp (pc_din (hu_of hr) (pv 1) (pe_call (ok_reached T B) (hr.mono (by decide)) rfl T.g_reached T.F_reached.kp T.b_reached .nil pass0 (pa_cons (pv 3) (pa_cons (pv 2) pa_nil)))))))))), ?_⟩
    have hcl := colL_len fs
    have hpl := placesL_len fs ("filled" : Str)
    refine ⟨_, rfl, l, fs, rfl, hF, hW, h100, fun r Hr hr1 sr hL => ?_⟩
    refine ⟨_, rfl, l, ("filled" : Str), fs, rfl, hF.same sr, h100, fun r2 H2 hr2 s2 ⟨qs, eq, hq⟩ => ?_⟩
    have hql := Paired.length hq
    have s02 := sr.trans s2
    refine ⟨r2, rfl, ⟨_, SqL.of eq⟩, s02 _ _ hP, ?_⟩
    refine q_turns (n := qs.length) (fun i => decide (∃ h : i < (placesL fs ("filled" : Str)).length, Reach (tabL fs) (placesL fs ("filled" : Str))[i].1 t)) (fun _ H4 => Same H2 H4) (Same.refl _) (fun H4 s4 => ⟨_, SqL.of (s4 _ _ eq), by rw [List.length_map]; exact Nat.le_refl _⟩) (fun i H4 hi s4 => ⟨_, V.ref qs[i], SqL.of (s4 _ _ eq), by rw [List.getElem?_map, List.getElem?_eq_getElem hi]; rfl⟩)
      (fun i v H4 H5 Qc hi s4 y hq2 => ?_) (fun H4 s4 hf => k _ H4 (s02.trans s4) ?_) (fun i H4 hi s4 hf hb => k _ H4 (s02.trans s4) ?_)
    · obtain ⟨eH, ev⟩ := y
      subst eH
      have ev := ev _ (SqL.of (s4 _ _ eq))
      rw [List.getElem?_map, List.getElem?_eq_getElem hi] at ev
      cases ev
      have hi2 : i < (placesL fs ("filled" : Str)).length := by omega
      have e1 := paired_at hq (List.getElem?_eq_getElem hi) (List.getElem?_eq_getElem hi2)
      refine ⟨_, _, rfl, SqT.of (s4 _ _ e1), rfl, _, _, rfl, _, _, rfl, rfl, rfl, ?_⟩
      refine ⟨_, rfl, _, rfl, _, rfl, _, r, tabL fs, rfl, (hL.same (s2.trans s4)), by unfold tabL; rw [List.length_map]; omega, fun d H6 kvs S hd s6 dk hk hS => ⟨d, _, rfl, DGet.k (k := .inr t) dk, ?_⟩⟩
      rw [keys_val hk]
      have e9 : decide (t ∈ S) = decide (∃ h : i < (placesL fs ("filled" : Str)).length, Reach (tabL fs) (placesL fs ("filled" : Str))[i].1 t) := decide_eq_decide.mpr ⟨fun z => ⟨hi2, (hS _).mp z⟩, fun ⟨_, z⟩ => (hS _).mpr z⟩
      rw [e9]
      exact hq2 H6 (s4.trans s6)
    · refine ⟨fun z => (by cases z), fun ⟨f, hf1, hf2, hf3⟩ => ?_⟩
      obtain ⟨j, hj, ej⟩ := List.getElem_of_mem (places_mem.mpr ⟨f, hf1, hf2, rfl⟩)
      have z := hf j (by omega)
      rw [decide_eq_true ⟨hj, by rw [ej]; exact hf3⟩] at z
      cases z
    · obtain ⟨hi2, z⟩ := of_decide_eq_true hf
      refine ⟨fun _ => ?_, fun _ => rfl⟩
      obtain ⟨f, h1, h2, h3⟩ := places_mem.mp (List.getElem_mem hi2)
      exact ⟨f, h1, h2, by rw [h3]; exact z⟩
end
end L2.Pf
set_option maxHeartbeats 2000000
namespace L2.Pf
open PySem PySem.Spec PyProof.Rows L2.Ev L2.Tpd L2.Seti L2.Gq L2.Enf L2.Sett L2.Itr L2.Dls L2.Own L2.Dsp L2.Dcs
section
variable {P : Program} {w : World} {K : PySem.W.Frag} {mg : Str → Option Value} {base : Heap}
theorem mem_once {acc : List Str} {x y : Str} : y ∈ once acc x ↔ y ∈ acc ∨ y = x := by
  unfold once
  split
  · rename_i h
    exact ⟨.inl, fun z => z.elim id fun e => by rw [e]; exact h⟩
  · rw [List.mem_append, List.mem_singleton]
theorem once_len {acc : List Str} {x : Str} : (once acc x).length ≤ acc.length + 1 := by
  unfold once
  split
  · exact Nat.le_succ _
  · rw [List.length_append]; exact Nat.le_refl _
theorem once_in {acc : List Str} {x : Str} (h : x ∈ acc) : once acc x = acc := if_pos h
/-- a dict built over a list -/
theorem dc_lst {a : Addr} {xs : List V} {g : TG} {tt : TT} {tk tv : TE} {vs : List Nat} {σ : L2.St} {H1 : Hp} {D : Addr} {Qd : Hp → Prop} (Pv : Nat → Hp → Prop) (h0 : Pv 0 (L2.upd H1 D (.dK []))) (hl : ∀ i H, i ≤ xs.length → Pv i H → SqL K H a xs)
    (hs : ∀ i x H, xs[i]? = some x → Pv i H → g x (wipe σ vs) H fun σ2 H2 => wipe σ2 vs = wipe σ vs ∧ tt σ2 H2 fun b H3 =>
      if b = true then tk σ2 H3 fun y H4 => tv σ2 H4 fun z H5 => ∃ kvs k, y = kV k ∧ H5 D = some (.dK kvs) ∧ kvs.length < sizeLine ∧ Pv (i + 1) (L2.upd H5 D (.dK (putK kvs k z))) else Pv (i + 1) H3) (hd : ∀ H, Pv xs.length H → Qd H) :
    ∃ W : Nat → Nat → Hp → Prop, (∃ m, W 0 m (L2.upd H1 D (.dK []))) ∧ ∀ i m H, W i m H →
      ((Itl K a).stop i H ∧ Qd H) ∨ ((Itl K a).go i H ∧ ∃ Nx : Hp → Prop, (∀ H', Nx H' → ∃ m', m' < m ∧ W (i + 1) m' H') ∧ ∀ x H', (Itl K a).yld i H x H' → g x (wipe σ vs) H' fun σ2 H2 => wipe σ2 vs = wipe σ vs ∧ tt σ2 H2 fun b H3 =>
        if b = true then tk σ2 H3 fun y H4 => tv σ2 H4 fun z H5 => ∃ kvs k, y = kV k ∧ H5 D = some (.dK kvs) ∧ kvs.length < sizeLine ∧ Nx (L2.upd H5 D (.dK (putK kvs k z))) else Nx H3) := by
  refine ⟨fun i m H => m = xs.length - i ∧ i ≤ xs.length ∧ Pv i H, ⟨_, rfl, Nat.zero_le _, h0⟩, ?_⟩
  rintro i m H ⟨rfl, hi, p⟩
  have q := hl i H hi p
  by_cases hlt : i < xs.length
  · refine .inr ⟨⟨xs, xs[i], q, by simp [hlt]⟩, Pv (i + 1), fun H' p' => ⟨xs.length - (i + 1), by omega, rfl, hlt, p'⟩, fun x H' y => ?_⟩
    obtain ⟨e, y⟩ := y
    subst e
    exact hs i x _ (y _ q) p
  · obtain rfl : i = xs.length := by omega
    exact .inl ⟨⟨xs, q, Nat.le_refl _⟩, hd H p⟩
/-- a table has at most one row for sure -/
inductive Lone (fs : List Fact) : Str → Prop
  | single {f : Fact} : f ∈ fs → f.1 = ("single" : Str) → Lone fs f.2.1.1
  | uniq {f : Fact} {y : CP} : f ∈ fs → f.1 = ("unique" : Str) → RG (colL fs) (cpOf f.2.1) y → Lone fs y.1 → Lone fs f.2.1.1
def cnt (us : List CP) (S : List Str) : Nat := (us.filter fun p => decide (p.1 ∉ S)).length
theorem cnt_le {us : List CP} {S S' : List Str} (h : ∀ y ∈ S, y ∈ S') : cnt us S' ≤ cnt us S := by
  unfold cnt
  induction us with
  | nil => exact Nat.le_refl _
  | cons a r ih =>
    by_cases h1 : a.1 ∈ S
    · simp only [List.filter_cons, h1, h _ h1, not_true, decide_false, Bool.false_eq_true, if_false]
      exact ih
    · by_cases h2 : a.1 ∈ S'
      · simp only [List.filter_cons, h1, h2, not_true, not_false_eq_true, decide_false, decide_true, Bool.false_eq_true, if_false, if_true, List.length_cons]
        omega
      · simp only [List.filter_cons, h1, h2, not_false_eq_true, decide_true, if_true, List.length_cons]
        omega
theorem cnt_lt {us : List CP} {S : List Str} {x : CP} (hx : x ∈ us) (hn : x.1 ∉ S) : cnt us (S ++ [x.1]) < cnt us S := by
  induction us with
  | nil => cases hx
  | cons a r ih =>
    have le := cnt_le (us := r) (S := S) (S' := S ++ [x.1]) fun y hy => List.mem_append_left _ hy
    unfold cnt at ih le ⊢
    rcases List.mem_cons.mp hx with e | h
    · subst e
      have h2 : x.1 ∈ S ++ [x.1] := List.mem_append_right _ (List.mem_singleton.mpr rfl)
      simp only [List.filter_cons, hn, h2, not_true, not_false_eq_true, decide_false, decide_true, Bool.false_eq_true, if_false, if_true, List.length_cons]
      omega
    · have q := ih h
      by_cases h1 : a.1 ∈ S
      · have h2 : a.1 ∈ S ++ [x.1] := List.mem_append_left _ h1
        simp only [List.filter_cons, h1, h2, not_true, decide_false, Bool.false_eq_true, if_false]
        exact q
      · by_cases h2 : a.1 ∈ S ++ [x.1]
        · simp only [List.filter_cons, h1, h2, not_true, not_false_eq_true, decide_false, decide_true, Bool.false_eq_true, if_false, if_true, List.length_cons]
          omega
        · simp only [List.filter_cons, h1, h2, not_false_eq_true, decide_true, if_true, List.length_cons]
          omega
def uniqs (fs : List Fact) : List CP := (placesL fs ("unique" : Str)).map cpOf
theorem uniqs_mem {fs : List Fact} {x : CP} : x ∈ uniqs fs ↔ ∃ f ∈ fs, f.1 = ("unique" : Str) ∧ cpOf f.2.1 = x := by
  unfold uniqs
  rw [List.mem_map]
  exact ⟨fun ⟨p, hp, e⟩ => by
    obtain ⟨f, h1, h2, h3⟩ := places_mem.mp hp
    exact ⟨f, h1, h2, by rw [h3, e]⟩, fun ⟨f, h1, h2, h3⟩ => ⟨f.2.1, places_mem.mpr ⟨f, h1, h2, rfl⟩, h3⟩⟩
def Closed (fs : List Fact) (S : List Str) : Prop := ∀ x ∈ uniqs fs, ConstS fs S x → x.1 ∈ S
/-- what a pass has done so far -/
def Inn (fs : List Fact) (j : Nat) (S S0 : List Str) : Prop := (∀ t ∈ S0, t ∈ S) ∧ (∀ t ∈ S, Lone fs t) ∧ ((S = S0 ∧ ∀ k x, k < j → (uniqs fs)[k]? = some x → ConstS fs S0 x → x.1 ∈ S0) ∨ (¬ Closed fs S0 ∧ cnt (uniqs fs) S < cnt (uniqs fs) S0))
theorem Inn.no {fs : List Fact} {j : Nat} {S S0 : List Str} {x : CP} (h : Inn fs j S S0) (ex : (uniqs fs)[j]? = some x) (hc : ¬ ConstS fs S x) : Inn fs (j + 1) S S0 := by
  refine ⟨h.1, h.2.1, h.2.2.imp (fun ⟨e, g⟩ => ⟨e, fun k y hk ey hy => ?_⟩) id⟩
  by_cases hkj : k = j
  · subst hkj
    rw [ex] at ey
    cases ey
    rw [e] at hc
    exact absurd hy hc
  · exact g k y (by omega) ey hy
theorem Inn.yes {fs : List Fact} {j : Nat} {S S0 : List Str} {x : CP} (h : Inn fs j S S0) (ex : (uniqs fs)[j]? = some x) (hc : ConstS fs S x) : Inn fs (j + 1) (once S x.1) S0 := by
  have hxm := List.mem_of_getElem? ex
  have hl : Lone fs x.1 := by
    obtain ⟨f, f1, f2, f3⟩ := uniqs_mem.mp hxm
    obtain ⟨y, y1, y2⟩ := hc
    have z := Lone.uniq f1 f2 (by rw [f3]; exact y1) (h.2.1 _ y2)
    have e : x.1 = f.2.1.1 := by rw [← f3]; rfl
    rw [e]; exact z
  refine ⟨fun t ht => mem_once.mpr (.inl (h.1 t ht)), fun t ht => (mem_once.mp ht).elim (h.2.1 t) fun e => by rw [e]; exact hl, ?_⟩
  by_cases hx : x.1 ∈ S
  · rw [once_in hx]
    refine h.2.2.imp (fun ⟨e, g⟩ => ⟨e, fun k y hk ey hy => ?_⟩) id
    by_cases hkj : k = j
    · subst hkj
      rw [ex] at ey
      cases ey
      rw [← e]; exact hx
    · exact g k y (by omega) ey hy
  · have e : once S x.1 = S ++ [x.1] := if_neg hx
    rw [e]
    have z := cnt_lt hxm hx
    rcases h.2.2 with ⟨e, _⟩ | ⟨nc, l⟩
    · subst e
      exact .inr ⟨fun c => hx (c x hxm hc), z⟩
    · exact .inr ⟨nc, Nat.lt_trans z l⟩
def Out (fs : List Fact) (i : Nat) (S : List Str) : Prop := (∀ f ∈ fs, f.1 = ("single" : Str) → f.2.1.1 ∈ S) ∧ (∀ t ∈ S, Lone fs t) ∧ (Closed fs S ∨ cnt (uniqs fs) S + i ≤ (uniqs fs).length)
theorem Out.next {fs : List Fact} {i : Nat} {S S0 : List Str} (h : Out fs i S0) (k : Inn fs (uniqs fs).length S S0) : Out fs (i + 1) S := by
  obtain ⟨k1, k2, k3⟩ := k
  refine ⟨fun f hf e => k1 _ (h.1 f hf e), k2, ?_⟩
  rcases k3 with ⟨e, g⟩ | ⟨nc, l⟩
  · refine .inl fun x hx hc => ?_
    obtain ⟨j, hj, ej⟩ := List.getElem_of_mem hx
    rw [e] at hc ⊢
    exact g j x hj (by rw [List.getElem?_eq_getElem hj, ej]) hc
  · rcases h.2.2 with c | c
    · exact absurd c nc
    · exact .inr (by omega)
theorem Out.done {fs : List Fact} {S : List Str} (h : Out fs (uniqs fs).length S) : ∀ t, t ∈ S ↔ Lone fs t := by
  have c : Closed fs S := h.2.2.elim id fun c x hx _ => by
    have z : cnt (uniqs fs) S = 0 := by omega
    unfold cnt at z
    have z2 := List.length_eq_zero_iff.mp z
    have z3 := List.filter_eq_nil_iff.mp z2 x hx
    simpa using z3
  refine fun t => ⟨h.2.1 t, fun l => ?_⟩
  induction l with
  | single hf e => exact h.1 _ hf e
  | uniq hf e r _ ih => exact c _ (uniqs_mem.mpr ⟨_, hf, e, rfl⟩) ⟨_, r, ih⟩
def sp_lone_tables (PA : Addr) : Sp := fun vs H Q _ => ∃ (l : Addr) (fs : List Fact), vs = [.ref l] ∧ FactsL H l fs ∧ WF fs ∧ fs.length ≤ 100 ∧ H PA = some (TabX PA) ∧
  ∀ d H' kvs S, H d = none → Same H H' → H' d = some (.dK kvs) → keysIs kvs S → (∀ t, t ∈ S ↔ Lone fs t) → Q (.ref d) H'
theorem ok_lone_tables (T : TX K mg) (B : TB T base) : FnOk P w K mg base CX0 4 T.a_lone_tables T.fd_lone_tables p_lone_tables (sp_lone_tables T.P_is_constant) := by
  classical
  refine T.F_lone_tables.ok sc_lone_tables (fun vs H Q E h => ?_) (fun cdv A outer s H vs Q E hr h => ?_)
  · obtain ⟨l, fs, rfl, _⟩ := h
    rfl
  · obtain ⟨l, fs, rfl, hF, hW, h100, hP, k⟩ := h
    refine ⟨_, (pss_cons (ps_setDc (i := 1) (own := [("table", 2), ("_", 3)]) (g := gTup K 2 (gCons (gName 2) (gCons (gName 3) gNil))) (tt := tYes) rfl sc_lone_tables.nd rfl rfl (sw_trueD rfl rfl rfl (by decide +kernel)) (pi_list (pe_call (ok_places_of T B) (hr.mono (by decide)) rfl T.g_places_of T.F_places_of.kp T.b_places_of .nil pass0 (pa_cons (pv 0) (pa_cons pe_str pa_nil)))) (blkOk_by (own := [("table", 2), ("_", 3)]) (N := n_lone_tables) (sc := defScope s_lone_tables) (by decide +kernel)) (fun _ _ _ _ _ => (pg_tup rfl (pgs_cons (pg_name (i := 2) sc_lone_tables.nd rfl (Or.inl rfl)) (pgs_cons (pg_name (i := 3) sc_lone_tables.nd rfl (Or.inl rfl)) pgs_nil)))) (fun _ _ _ _ _ => pts_nil) (fun _ _ _ _ _ => (pv 2)) (fun _ _ _ _ _ => pe_bl))
  (pss_cons (ps_set (i := 4) sc_lone_tables.nd rfl (Or.inl rfl) (pe_call (ok_places_of T B) (hr.mono (by decide)) rfl T.g_places_of T.F_places_of.kp T.b_places_of .nil pass0 (pa_cons (pv 0) (pa_cons pe_str pa_nil))))
  (pss_cons (ps_for PassesOwn.never rfl (pi_list (pv 4)) (pg_name (i := 3) sc_lone_tables.nd rfl (Or.inl rfl)) (pss_one (ps_for PassesOwn.never rfl (pi_list (pv 4)) (pg_name (i := 5) sc_lone_tables.nd rfl (Or.inl rfl)) (pss_one (ps_if (pt_val (pe_call (ok_is_constant T B) (hr.mono (by decide)) rfl T.g_is_constant T.F_is_constant.kp T.b_is_constant .nil pass0 (pa_cons (pv 0) (pa_cons (pv 1) (pa_cons (pv 5) pa_nil))))) (pss_one (ps_dput (hu_of hr) (pv 1) (pe_ix ix_tup (pv 5) pe_int (fun _ _ => rfl)) pe_bl rfl)) pss_nil)))))
  (pss_one (ps_ret (pv 1)))))), ?_⟩
    have hps := placesL_len fs ("single" : Str)
    have hpu := placesL_len fs ("unique" : Str)
    refine ⟨_, rfl, l, ("single" : Str), fs, rfl, hF, h100, fun r Hr hr1 sr ⟨qs, eq, hq⟩ => ?_⟩
    have hql := Paired.length hq
    refine ⟨r, rfl, ⟨_, SqL.of eq⟩, fun D hD => ?_⟩
    have hDH : H D = none := by
      rcases hx : H D with _ | u
      · rfl
      · rw [sr _ _ hx] at hD; cases hD
    refine dc_lst (xs := qs.map V.ref) (fun i H' => Same Hr H' ∧ ∃ kvs S, H' D = some (.dK kvs) ∧ keysIs kvs S ∧ S.length ≤ i ∧ ∀ t, t ∈ S ↔ ∃ p ∈ (placesL fs ("single" : Str)).take i, p.1 = t) ⟨Same.new (Same.refl _) hD, [], [], upd_same, rfl, Nat.le_refl _, fun t => ⟨fun z => (by cases z), fun ⟨p, hp, _⟩ => (by cases hp)⟩⟩ (fun i H' _ h => SqL.of (h.1 _ _ eq)) ?_ ?_
    · rintro i x H' hx ⟨s1, kvs, S, e1, hk, hl, hS⟩
      have hi : i < qs.length := by
        rcases Nat.lt_or_ge i qs.length with h | h
        · exact h
        · rw [List.getElem?_eq_none (by rw [List.length_map]; omega)] at hx; cases hx
      have hi2 : i < (placesL fs ("single" : Str)).length := by omega
      rw [List.getElem?_map, List.getElem?_eq_getElem hi] at hx
      cases hx
      have e2 := paired_at hq (List.getElem?_eq_getElem hi) (List.getElem?_eq_getElem hi2)
      refine ⟨_, _, rfl, SqT.of (s1 _ _ e2), rfl, _, _, rfl, _, _, rfl, rfl, rfl, ?_⟩
      refine ⟨_, rfl, kvs, .inr (placesL fs ("single" : Str))[i].1, rfl, e1, small1000 (by have z := congrArg List.length hk; rw [List.length_map, List.length_map] at z; omega), ?_, _, once S (placesL fs ("single" : Str))[i].1, upd_same, putK_keys hk, by have z := once_len (acc := S) (x := (placesL fs ("single" : Str))[i].1); omega, fun t => ?_⟩
      · exact Same.own s1 hD
      · rw [mem_once, hS, List.take_add_one, List.getElem?_eq_getElem hi2]
        constructor
        · rintro (⟨p, hp, e⟩ | e)
          · exact ⟨p, List.mem_append_left _ hp, e⟩
          · exact ⟨_, List.mem_append_right _ (List.mem_singleton_self _), e.symm⟩
        · rintro ⟨p, hp, e⟩
          rcases List.mem_append.mp hp with h | h
          · exact .inl ⟨p, h, e⟩
          · rw [Option.toList_some, List.mem_singleton] at h
            exact .inr (by rw [← e, h])
    rintro H1 ⟨s1, kv0, S0, e1, hk0, hl0, hS0⟩
    rw [List.length_map, hql] at hl0 hS0
    rw [List.take_length] at hS0
    have s01 := sr.trans s1
    refine ⟨_, rfl, l, ("unique" : Str), fs, rfl, hF.same s01, h100, fun r2 H2 hr2 s2 ⟨us, eu, hu⟩ => ?_⟩
    have hul := Paired.length hu
    have huq : (uniqs fs).length = us.length := by unfold uniqs; rw [List.length_map]; exact hul.symm
    have s12 := s1.trans s2
    have s02 := s01.trans s2
    have nD2 : r2 ≠ D := fun z => by rw [z, e1] at hr2; cases hr2
    have out0 : Out fs 0 S0 := ⟨fun f hf e => (hS0 _).mpr ⟨f.2.1, places_mem.mpr ⟨f, hf, e, rfl⟩, rfl⟩, fun t ht => by
      obtain ⟨p, hp, e⟩ := (hS0 t).mp ht
      obtain ⟨f, f1, f2, f3⟩ := places_mem.mp hp
      rw [← e, ← f3]
      exact Lone.single f1 f2, .inr (by rw [Nat.add_zero]; exact List.length_filter_le _ _)⟩
    -- H2 without D, and D
    have base2 : ∀ {H' : Hp}, But D H2 H' → Same H H' := fun b q o e => b _ _ (fun z => by rw [z, hDH] at e; cases e) (s02 _ _ e)
    refine ⟨_, rfl, r2, rfl, ⟨_, SqL.of eu⟩, ?_⟩
    refine for_list (xs := us.map V.ref) (fun i σ H' => ∃ (v2 v3 v5 : Option V) (kvs : List (L2.Key × V)) (S : List Str), σ = [some (.ref l), some (.ref D), v2, v3, some (.ref r2), v5] ∧ But D H2 H' ∧ H' D = some (.dK kvs) ∧ keysIs kvs S ∧ S.length ≤ 100 + 100 * i ∧ Out fs i S)
      ⟨_, _, _, kv0, S0, rfl, But.refl _ _, s2 _ _ e1, hk0, by omega, out0⟩ (fun i σ H' _ ⟨_, _, _, _, _, _, b, _⟩ => SqL.of (b _ _ nD2 eu)) ?_ ?_
    · rintro i x σ H3 hx ⟨v2, v3, v5, kvs, S, rfl, b3, e3, hk3, hl3, o3⟩
      have hi : i < us.length := by
        rcases Nat.lt_or_ge i us.length with h | h
        · exact h
        · rw [List.getElem?_eq_none (by rw [List.length_map]; omega)] at hx; cases hx
      refine ⟨_, rfl, r2, rfl, ⟨_, SqL.of (b3 _ _ nD2 eu)⟩, ?_⟩
      refine for_list (xs := us.map V.ref) (fun j σ H' => ∃ (v5 : Option V) (kvs : List (L2.Key × V)) (S' : List Str), σ = [some (.ref l), some (.ref D), v2, some x, some (.ref r2), v5] ∧ But D H2 H' ∧ H' D = some (.dK kvs) ∧ keysIs kvs S' ∧ S'.length ≤ 100 + 100 * i + j ∧ Inn fs j S' S)
        ⟨_, kvs, S, rfl, b3, e3, hk3, by omega, fun t ht => ht, o3.2.1, .inl ⟨rfl, fun k y hk => absurd hk (Nat.not_lt_zero _)⟩⟩ (fun j σ H' _ ⟨_, _, _, _, b, _⟩ => SqL.of (b _ _ nD2 eu)) ?_ ?_
      · rintro j y σ H4 hy ⟨v5', kv4, S4, rfl, b4, e4, hk4, hl4, i4⟩
        have hj : j < us.length := by
          rcases Nat.lt_or_ge j us.length with h | h
          · exact h
          · rw [List.getElem?_eq_none (by rw [List.length_map]; omega)] at hy; cases hy
        have hj2 : j < (placesL fs ("unique" : Str)).length := by omega
        rw [List.getElem?_map, List.getElem?_eq_getElem hj] at hy
        cases hy
        have ey := paired_at hu (List.getElem?_eq_getElem hj) (List.getElem?_eq_getElem hj2)
        have exj : (uniqs fs)[j]? = some (cpOf (placesL fs ("unique" : Str))[j]) := by unfold uniqs; rw [List.getElem?_map, List.getElem?_eq_getElem hj2]; rfl
        obtain ⟨f, f1, f2, f3⟩ := places_mem.mp (List.getElem_mem hj2)
        obtain ⟨t, c, g1, g2⟩ := (hW f f1).2 f2
        rw [← f3, g1] at ey exj
        have nuD : us[j] ≠ D := fun z => by
          have z2 := s2 _ _ e1
          rw [← z, ey] at z2; cases z2
        have ey4 : cpV H4 us[j] (t, c) := b4 _ _ nuD ey
        have s04 := base2 b4
        refine ⟨_, rfl, _, rfl, _, rfl, l, D, us[j], fs, S4, kv4, (t, c), rfl, hF.same s04, hW, h100, e4, hk4, ey4, g2, s04 _ _ hP, fun b H5 s5 hb => ?_⟩
        have b5 : But D H2 H5 := b4.trans (But.of s5)
        refine ⟨b, rfl, ?_⟩
        have hk4l : kv4.length = S4.length := by have z := congrArg List.length hk4; rw [List.length_map, List.length_map] at z; exact z
        cases b with
        | true =>
          refine iteT ⟨_, rfl, _, rfl, us[j], _, 0, _, rfl, rfl, SqT.of (s5 _ _ ey4), atI_nat (k := 0) rfl, D, _, rfl, DPut.k (k := .inr t) (s5 _ _ e4) (by rw [hk4l, sizeLine_eq]; omega), ?_⟩
          refine ⟨_, _, once S4 t, rfl, fun q o n e => by rw [upd_ne n]; exact b5 q o n e, upd_same, putK_keys hk4, by have z := once_len (acc := S4) (x := t); omega, ?_⟩
          exact i4.yes exj (hb.mp rfl)
        | false =>
          exact iteF ⟨_, kv4, S4, rfl, b5, s5 _ _ e4, hk4, by omega, i4.no exj fun z => by have z2 := hb.mpr z; cases z2⟩
      · rintro σ H4 ⟨v5', kv4, S4, rfl, b4, e4, hk4, hl4, i4⟩
        rw [List.length_map] at hl4 i4
        rw [← huq] at i4
        exact ⟨v2, _, _, kv4, S4, rfl, b4, e4, hk4, by omega, o3.next i4⟩
    · rintro σ H3 ⟨v2, v3, v5, kvs, S, rfl, b3, e3, hk3, hl3, o3⟩
      rw [List.length_map, ← huq] at o3
      exact ⟨_, rfl, k D H3 kvs S hDH (base2 b3) e3 hk3 o3.done⟩
end
end L2.Pf
set_option maxHeartbeats 2000000
namespace L2.Pf
open PySem PySem.Spec PyProof.Rows L2.Ev L2.Tpd L2.Seti L2.Gq L2.Enf L2.Sett L2.Itr L2.Dls L2.Own L2.Dsp L2.Dcs
section
variable {P : Program} {w : World} {K : PySem.W.Frag} {mg : Str → Option Value} {base : Heap}
/-- a column has at most one value for sure -/
def Const (fs : List Fact) (x : CP) : Prop := ∃ y, RG (colL fs) x y ∧ Lone fs y.1
theorem const_iff {fs : List Fact} {S : List Str} {x : CP} (h : ∀ t, t ∈ S ↔ Lone fs t) : ConstS fs S x ↔ Const fs x :=
  ⟨fun ⟨y, a, b⟩ => ⟨y, a, (h _).mp b⟩, fun ⟨y, a, b⟩ => ⟨y, a, (h _).mpr b⟩⟩
/-- a link that holds the other way round, too, where a table has a row -/
def Turn (fs : List Fact) (t : Str) (p : CP × CP) : Prop := Const fs p.2 ∧ (Reach (tabL fs) t p.1.1 ∨ Filled fs p.1.1)
open Classical in
noncomputable def turnedL (fs : List Fact) (t : Str) : CL := ((colL fs).filter fun p => decide (Turn fs t p)).map fun p => (p.2, p.1)
theorem turned_mem {fs : List Fact} {t : Str} {p : CP × CP} : p ∈ turnedL fs t ↔ (p.2, p.1) ∈ colL fs ∧ Turn fs t (p.2, p.1) := by
  classical
  unfold turnedL
  rw [List.mem_map]
  constructor
  · rintro ⟨q, hq, rfl⟩
    obtain ⟨h1, h2⟩ := List.mem_filter.mp hq
    exact ⟨h1, of_decide_eq_true h2⟩
  · rintro ⟨h1, h2⟩
    exact ⟨(p.2, p.1), List.mem_filter.mpr ⟨h1, decide_eq_true h2⟩, rfl⟩
theorem turned_len {fs : List Fact} {t : Str} : (turnedL fs t).length ≤ fs.length := by
  unfold turnedL
  rw [List.length_map]
  exact Nat.le_trans (List.length_filter_le _ _) (colL_len fs)
theorem turned_ok {fs : List Fact} {t : Str} (h : WF fs) : okCL (turnedL fs t) := fun p hp => by
  have z := colL_ok h _ (turned_mem.mp hp).1
  exact ⟨z.2, z.1⟩
def sp_turned_links (PC PF : Addr) : Sp := fun vs H Q _ => ∃ (l : Addr) (t : Str) (fs : List Fact), vs = [.ref l, .str t] ∧ FactsL H l fs ∧ WF fs ∧ fs.length ≤ 100 ∧ H PC = some (TabX PC) ∧ H PF = some (TabX PF) ∧ ∀ r H', H r = none → Same H H' → CLinksAt H' r (turnedL fs t) → Q (.ref r) H'
theorem free_of {H H' : Hp} {a : Addr} (s : Same H H') (h : H' a = none) : H a = none := by
  rcases hx : H a with _ | u
  · rfl
  · rw [s _ _ hx] at h; cases h
theorem ok_turned_links (T : TX K mg) (B : TB T base) : FnOk P w K mg base CX0 5 T.a_turned_links T.fd_turned_links p_turned_links (sp_turned_links T.P_is_constant T.P_is_filled) := by
  classical
  refine T.F_turned_links.ok sc_turned_links (fun vs H Q E h => ?_) (fun cdv A outer s H vs Q E hr h => ?_)
  · obtain ⟨l, t, fs, rfl, _⟩ := h
    rfl
  · obtain ⟨l, t, fs, rfl, hF, hW, h100, hP1, hP2, k⟩ := h
    refine ⟨_, (pss_cons (ps_set (i := 2) sc_turned_links.nd rfl (Or.inr rfl) (pe_call (ok_lone_tables T B) (hr.mono (by decide)) rfl T.g_lone_tables T.F_lone_tables.kp T.b_lone_tables .nil pass0 (pa_cons (pv 0) pa_nil)))
  (pss_cons (ps_set (i := 3) sc_turned_links.nd rfl (Or.inr rfl) (pe_call (ok_reached T B) (hr.mono (by decide)) rfl T.g_reached T.F_reached.kp T.b_reached .nil pass0 (pa_cons (pv 1) (pa_cons (pe_call (ok_table_linksN T B) (hr.mono (by decide)) rfl T.g_table_links T.F_table_links.kp T.b_table_links .nil pass0 (pa_cons (pv 0) pa_nil)) pa_nil))))
  (pss_one (ps_ret (pe_lc (own := [("place", 4), ("goal", 5)]) (g := gTup K 2 (gCons (gName 4) (gCons (gName 5) gNil))) (tt := _) rfl sc_turned_links.nd (pi_list (pe_call (ok_column_linksN T B) (hr.mono (by decide)) rfl T.g_column_links T.F_column_links.kp T.b_column_links .nil pass0 (pa_cons (pv 0) pa_nil))) (blkOk_by (own := [("place", 4), ("goal", 5)]) (N := n_turned_links) (sc := defScope s_turned_links) (by decide +kernel)) (fun _ _ _ _ _ => (pg_tup rfl (pgs_cons (pg_name (i := 4) sc_turned_links.nd rfl (Or.inl rfl)) (pgs_cons (pg_name (i := 5) sc_turned_links.nd rfl (Or.inl rfl)) pgs_nil)))) (fun _ _ _ _ _ => pts_one (PW.pt (pw_and (pt_val (pe_call (ok_is_constant T B) (hr.mono (by decide)) rfl T.g_is_constant T.F_is_constant.kp T.b_is_constant .nil pass0 (pa_cons (pv 0) (pa_cons (pv 2) (pa_cons (pv 5) pa_nil))))) (pw_and1 (PW.pt (pw_or (pt_cmp (pc_din (hu_of hr) (pe_ix (ix_tupK (K := K)) (pv 4) pe_int (fun _ _ => rfl)) (pv 3))) (pw_or1 (pt_val (pe_call (ok_is_filled T B) (hr.mono (by decide)) rfl T.g_is_filled T.F_is_filled.kp T.b_is_filled .nil pass0 (pa_cons (pv 0) (pa_cons (pe_ix (ix_tupK (K := K)) (pv 4) pe_int (fun _ _ => rfl)) pa_nil))))))))))) (fun _ _ _ _ _ => (pe_tupS (pa_cons (pv 5) (pa_cons (pv 4) pa_nil))))))))), ?_⟩
    have hcl := colL_len fs
    refine ⟨_, rfl, l, fs, rfl, hF, hW, h100, hP1, fun dl H1 kvL SL hdl s1 e1 hkL hSL => ?_⟩
    refine ⟨_, rfl, _, rfl, l, fs, rfl, hF.same s1, hW, h100, fun r2 H2 hr2 s2 hL2 => ?_⟩
    refine ⟨_, r2, tabL fs, rfl, hL2, by unfold tabL; rw [List.length_map]; omega, fun dt H3 kvT ST hdt s3 e3 hkT hST => ?_⟩
    have s03 := (s1.trans s2).trans s3
    refine ⟨_, rfl, l, fs, rfl, hF.same s03, hW, h100, fun r4 H4 hr4 s4 ⟨qs, eq, hq⟩ => ?_⟩
    have s04 := s03.trans s4
    have hql := Paired.length hq
    have el4 := (s2.trans s3).trans s4 |> fun s => s _ _ e1
    have et4 := s4 _ _ e3
    refine ⟨r4, rfl, ⟨_, SqL.of eq⟩, fun D hD => ?_⟩
    refine lc_grow (n := (colL fs).length) hD (fun i acc H' => ∃ ps : List Addr, acc = ps.map V.ref ∧ Paired (CPair H') ps ((((colL fs).take i).filter fun p => decide (Turn fs t p)).map fun p => (p.2, p.1))) (fun i acc H' o ⟨ps, e, h⟩ hu => ⟨ps, e, Paired.mapP h fun q p z => z.keep (tups_keep hu)⟩) (fun _ _ => ⟨[], rfl, .nil⟩)
      (fun i H' hi s1 => ⟨_, V.ref (qs[i]'(by omega)), SqL.of (s1 _ _ eq), by rw [List.getElem?_map, List.getElem?_eq_getElem (by omega)]; rfl⟩) (fun H' s1 => ⟨_, SqL.of (s1 _ _ eq), by rw [List.length_map]; omega⟩) (small1000 (by omega)) (fun i acc H' F G hFF hG hi s5 hacc hp v Hv yl => ?_) (fun acc H' s5 ha ⟨ps, e, hps⟩ => ?_)
    · obtain ⟨ps, rfl, hps⟩ := hp
      obtain ⟨eH, ev⟩ := yl
      subst eH
      have ev := ev _ (SqL.of (s5 _ _ eq))
      rw [List.getElem?_map, List.getElem?_eq_getElem (show i < qs.length by omega)] at ev
      cases ev
      obtain ⟨a, b, e5, ea, eb⟩ := paired_at hq (List.getElem?_eq_getElem (show i < qs.length by omega)) (List.getElem?_eq_getElem hi)
      have hokp := colL_ok hW _ (List.getElem_mem hi)
      have es : ((colL fs).take (i + 1)).filter (fun p => decide (Turn fs t p)) = ((colL fs).take i).filter (fun p => decide (Turn fs t p)) ++ if decide (Turn fs t (colL fs)[i]) = true then [(colL fs)[i]] else [] := by
        rw [List.take_add_one, List.getElem?_eq_getElem hi, List.filter_append]
        congr 1
        show List.filter _ [(colL fs)[i]] = _
        rw [List.filter_cons]; rfl
      generalize (colL fs)[i] = p at ea eb hokp es
      have s05 := s04.trans s5
      have no : ¬ Turn fs t p → ∀ H6, Same Hv H6 → G H6 := fun h H6 s6 => hG _ s6 ⟨ps, rfl, by
        rw [es, if_neg (by rw [decide_eq_false h]; decide), List.append_nil]
        exact Paired.mapP hps fun q p z => z.keep (fun _ _ e => s6 _ _ e)⟩
      refine ⟨_, _, rfl, SqT.of (s5 _ _ e5), rfl, _, _, rfl, _, _, rfl, rfl, rfl, ?_⟩
      refine ⟨_, rfl, _, rfl, _, rfl, l, dl, b, fs, SL, kvL, p.2, rfl, hF.same s05, hW, h100, s5 _ _ el4, hkL, s5 _ _ eb, hokp.2, s05 _ _ hP1, fun b1 H6 s6 hb1 => ⟨b1, rfl, ?_⟩⟩
      have hb1 := hb1.trans (const_iff hSL)
      have yes : Turn fs t p → ∀ H7, Same Hv H7 → ∃ v, ([some (V.ref l), some (V.str t), some (V.ref dl), some (V.ref dt), some (V.ref a), some (V.ref b)] : L2.St)[5]? = some (some v) ∧ ∃ v2, ([some (V.ref l), some (V.str t), some (V.ref dl), some (V.ref dt), some (V.ref a), some (V.ref b)] : L2.St)[4]? = some (some v2) ∧ 2 ≤ sizeLine ∧ Lays H7 (.tup [v, v2]) F := fun h H7 s7 => ⟨_, rfl, _, rfl, (by show 2 ≤ sizeLine; decide), fun r H8 hr8 s8 e8 => hFF _ H8 (s7.trans s8) ⟨ps ++ [r], by rw [List.map_append]; rfl, by
        rw [es, if_pos (decide_eq_true h), List.map_append]
        exact paired_snc (Paired.mapP hps fun q p z => z.keep (fun _ _ e => (s7.trans s8) _ _ e)) ⟨b, a, e8, (s7.trans s8) _ _ (s5 _ _ eb), (s7.trans s8) _ _ (s5 _ _ ea)⟩⟩⟩
      cases b1 with
      | false => exact iteF (no (fun h => by have z := hb1.mpr h.1; cases z) H6 s6)
      | true =>
        have hc := hb1.mp rfl
        refine iteT ⟨_, rfl, a, _, 0, _, rfl, rfl, SqT.of (s6 _ _ (s5 _ _ ea)), atI_nat (k := 0) rfl, _, rfl, dt, _, rfl, DGet.k (k := .inr p.1.1) (s6 _ _ (s5 _ _ et4)), _, rfl, ?_⟩
        rw [keys_val hkT]
        by_cases hm : p.1.1 ∈ ST
        · rw [decide_eq_true hm]
          exact iteT (yes ⟨hc, .inl ((hST _).mp hm)⟩ H6 s6)
        · rw [decide_eq_false hm]
          refine iteF ⟨_, rfl, _, rfl, a, _, 0, _, rfl, rfl, SqT.of (s6 _ _ (s5 _ _ ea)), atI_nat (k := 0) rfl, l, p.1.1, fs, rfl, hF.same (s05.trans s6), hW, h100, (s05.trans s6) _ _ hP2, fun b2 H7 s7 hb2 => ⟨b2, rfl, ?_⟩⟩
          cases b2 with
          | true => exact iteT (yes ⟨hc, .inr (hb2.mp rfl)⟩ H7 (s6.trans s7))
          | false => exact iteF (no (fun h => h.2.elim (fun z => hm ((hST _).mpr z)) fun z => by have z2 := hb2.mpr z; cases z2) H7 (s6.trans s7))
    · rw [List.take_length] at hps
      subst e
      exact k D H' (free_of s04 hD) (s04.trans s5) ⟨ps, ha, hps⟩
end
end L2.Pf
set_option maxHeartbeats 2000000
namespace L2.Pf
open PySem PySem.Spec PyProof.Rows L2.Ev L2.Tpd L2.Seti L2.Gq L2.Enf L2.Sett L2.Itr L2.Dls L2.Own L2.Dsp L2.Dcs
section
variable {P : Program} {w : World} {K : PySem.W.Frag} {mg : Str → Option Value} {base : Heap}
/-- each value of a column is a value of another one -/
def FoundI (fs : List Fact) (x g : CP) : Prop := RG (colL fs ++ turnedL fs x.1) x g
def sp_is_found (PC PF : Addr) : Sp := fun vs H Q _ => ∃ (l qx qg : Addr) (fs : List Fact) (x g : CP), vs = [.ref l, .ref qx, .ref qg] ∧ FactsL H l fs ∧ WF fs ∧ fs.length ≤ 100 ∧ cpV H qx x ∧ okCP x ∧ cpV H qg g ∧ H PC = some (TabX PC) ∧ H PF = some (TabX PF) ∧
  ∀ (b : Bool) H', Same H H' → (b = true ↔ FoundI fs x g) → Q (.bl b) H'
theorem paired_app {α β : Type} {F : α → β → Prop} {a c : List α} {b d : List β} (h : Paired F a b) (k : Paired F c d) : Paired F (a ++ c) (b ++ d) := by
  induction h with
  | nil => exact k
  | cons g t ih => exact .cons g ih
theorem ok_is_found (T : TX K mg) (B : TB T base) : FnOk P w K mg base CX0 6 T.a_is_found T.fd_is_found p_is_found (sp_is_found T.P_is_constant T.P_is_filled) := by
  refine T.F_is_found.ok sc_is_found (fun vs H Q E h => ?_) (fun cdv A outer s H vs Q E hr h => ?_)
  · obtain ⟨l, qx, qg, fs, x, g, rfl, _⟩ := h
    rfl
  · obtain ⟨l, qx, qg, fs, x, g, rfl, hF, hW, h100, hx, hox, hg, hP1, hP2, k⟩ := h
    refine ⟨_, (pss_cons (ps_set (i := 3) sc_is_found.nd rfl (Or.inl rfl) (pe_call (ok_column_linksN T B) (hr.mono (by decide)) rfl T.g_column_links T.F_column_links.kp T.b_column_links .nil pass0 (pa_cons (pv 0) pa_nil)))
  (pss_one (ps_ret (pe_cmp (pc_din (hu_of hr) (pv 2) (pe_call (ok_reachedT T B) (hr.mono (by decide)) rfl T.g_reached T.F_reached.kp T.b_reached .nil pass0 (pa_cons (pv 1) (pa_cons (pe_op op_catS (pv 3) (pe_call (ok_turned_links T B) (hr.mono (by decide)) rfl T.g_turned_links T.F_turned_links.kp T.b_turned_links .nil pass0 (pa_cons (pv 0) (pa_cons (pe_ix ix_tup (pv 1) pe_int (fun _ _ => rfl)) pa_nil)))) pa_nil)))))))), ?_⟩
    have hcl := colL_len fs
    have htl := turned_len (fs := fs) (t := x.1)
    refine ⟨_, rfl, l, fs, rfl, hF, hW, h100, fun r1 H1 hr1 s1 ⟨q1, e1, p1⟩ => ?_⟩
    have l1 := Paired.length p1
    refine ⟨_, rfl, _, rfl, _, rfl, _, rfl, _, rfl, qx, _, 0, _, rfl, rfl, SqT.of (s1 _ _ hx), atI_nat (k := 0) rfl, l, x.1, fs, rfl, hF.same s1, hW, h100, s1 _ _ hP1, s1 _ _ hP2, fun r2 H2 hr2 s2 ⟨q2, e2, p2⟩ => ?_⟩
    have l2 := Paired.length p2
    have p12 : Paired (CPair H2) (q1 ++ q2) (colL fs ++ turnedL fs x.1) := paired_app (Paired.mapP p1 fun q p z => CPair.keep z (fun _ _ e => s2 _ _ e)) p2
    refine ⟨r1, r2, _, _, rfl, rfl, s2 _ _ e1, e2, Nat.le_of_lt (small1000 (by rw [List.length_map, List.length_map]; omega)), fun r3 H3 hr3 s3 e3 => ?_⟩
    rw [← List.map_append] at e3
    have s03 := (s1.trans s2).trans s3
    refine ⟨x, qx, r3, colL fs ++ turnedL fs x.1, rfl, s03 _ _ hx, hox, ⟨_, e3, Paired.mapP p12 fun q p z => CPair.keep z (fun _ _ e => s3 _ _ e)⟩, fun p hp => (List.mem_append.mp hp).elim (colL_ok hW p) (turned_ok hW p), by rw [List.length_append]; omega, fun d H4 kvs S hd s4 e4 hk hS => ?_⟩
    refine ⟨d, _, rfl, DGet.t (k := kT g) e4 (cpV_key ((s03.trans s4) _ _ hg)), ?_⟩
    rw [keysT_val hk]
    exact k _ H4 (s03.trans s4) ⟨fun z => (hS g).mp (of_decide_eq_true z), fun z => decide_eq_true ((hS g).mpr z)⟩
/-- the data of a fact -/
def dO : Option Str → PyData
  | none => .none
  | some c => .str c
def dPl (p : Place) : PyData := .tuple [.str p.1, dO p.2]
def dG : Option Place → PyData
  | none => .none
  | some g => dPl g
def dF (f : Fact) : PyData := .tuple [.str f.1, dPl f.2.1, dG f.2.2]
def okPl (p : Place) : Prop := PyData.strOk p.1 = true ∧ ∀ c, p.2 = some c → PyData.strOk c = true
def okF (f : Fact) : Prop := PyData.strOk f.1 = true ∧ okPl f.2.1 ∧ ∀ g, f.2.2 = some g → okPl g
theorem lay_O {o : Option Str} (h : ∀ c, o = some c → PyData.strOk c = true) : (dO o).canLay0 = true ∧ (dO o).depth ≤ 1 := by
  cases o with
  | none => exact ⟨rfl, by simp [dO, PyData.depth]⟩
  | some c => exact ⟨h c rfl, by simp [dO, PyData.depth]⟩
theorem lay_Pl {p : Place} (h : okPl p) : (dPl p).canLay0 = true ∧ (dPl p).depth ≤ 2 := by
  obtain ⟨a, b⟩ := lay_O h.2
  refine ⟨by simp [dPl, PyData.canLay0, PyData.canLayAll0, a, h.1], ?_⟩
  simp only [dPl, PyData.depth, PyData.depthAll]
  omega
theorem lay_G {o : Option Place} (h : ∀ g, o = some g → okPl g) : (dG o).canLay0 = true ∧ (dG o).depth ≤ 2 := by
  cases o with
  | none => exact ⟨rfl, by simp [dG, PyData.depth]⟩
  | some c => exact lay_Pl (h c rfl)
theorem lay_F {f : Fact} (h : okF f) : (dF f).canLay0 = true ∧ (dF f).depth ≤ 3 := by
  obtain ⟨a, b⟩ := lay_Pl h.2.1
  obtain ⟨c, d⟩ := lay_G h.2.2
  refine ⟨by simp [dF, PyData.canLay0, PyData.canLayAll0, a, c, h.1], ?_⟩
  simp only [dF, PyData.depth, PyData.depthAll]
  omega
theorem lay_Fs {fs : List Fact} (h : ∀ f ∈ fs, okF f) : PyData.canLayAll0 (fs.map dF) = true ∧ PyData.depthAll (fs.map dF) ≤ 3 := by
  induction fs with
  | nil => exact ⟨rfl, by simp [PyData.depthAll]⟩
  | cons f r ih =>
    obtain ⟨a, b⟩ := lay_F (h f List.mem_cons_self)
    obtain ⟨c, d⟩ := ih fun g hg => h g (List.mem_cons_of_mem _ hg)
    refine ⟨by simp [PyData.canLayAll0, a, c], ?_⟩
    simp only [List.map_cons, PyData.depthAll]
    omega
theorem strs_eq (x y : Str) : (x == y) = decide (x = y) := by
  by_cases h : x = y
  · subst h; simp
  · simp [h]
theorem eqv_O {a b : Option Str} : PyData.eqv (dO a) (dO b) = decide (a = b) := by
  cases a <;> cases b <;> simp [dO, PyData.eqv, strs_eq]
theorem eqv_Pl {p q : Place} : PyData.eqv (dPl p) (dPl q) = decide (p = q) := by
  obtain ⟨a, b⟩ := p
  obtain ⟨c, d⟩ := q
  simp only [dPl, PyData.eqv, PyData.eqvAll, eqv_O, strs_eq]
  by_cases h1 : a = c <;> by_cases h2 : b = d <;> simp [h1, h2]
theorem eqv_G {a b : Option Place} : PyData.eqv (dG a) (dG b) = decide (a = b) := by
  cases a with
  | none => cases b <;> simp [dG, dPl, PyData.eqv]
  | some p => cases b with
    | none => simp [dG, dPl, PyData.eqv]
    | some q =>
      show PyData.eqv (dPl p) (dPl q) = _
      rw [eqv_Pl]
      by_cases h : p = q <;> simp [h]
theorem eqv_F {f g : Fact} : PyData.eqv (dF f) (dF g) = decide (f = g) := by
  obtain ⟨a, b, c⟩ := f
  obtain ⟨a2, b2, c2⟩ := g
  simp only [dF, PyData.eqv, PyData.eqvAll, eqv_Pl, eqv_G, strs_eq]
  by_cases h1 : a = a2 <;> by_cases h2 : b = b2 <;> by_cases h3 : c = c2 <;> simp [h1, h2, h3]
theorem dp_Pl {H : Hp} {p : Place} {q : Addr} (h : H q = some (.tup [.str p.1, colV p.2])) : Dp K H (.ref q) (dPl p) := by
  refine .tup (SqT.of h) (.cons (.str _) (.cons ?_ .nil))
  cases p.2 with
  | none => exact .non
  | some c => exact .str c
theorem dp_F {H : Hp} {f : Fact} {q : Addr} (h : FacV H q f) : Dp K H (.ref q) (dF f) := by
  obtain ⟨vp, vg, e, p1, p2⟩ := h
  refine .tup (SqT.of e) (.cons (.str _) (.cons ?_ (.cons ?_ .nil)))
  · obtain ⟨a, rfl, ea⟩ := p1
    exact dp_Pl ea
  · cases hg : f.2.2 with
    | none =>
      rw [hg] at p2
      have p2 : vg = .non := p2
      rw [p2]; exact .non
    | some g =>
      rw [hg] at p2
      obtain ⟨a, rfl, ea⟩ := p2
      exact dp_Pl ea
theorem dp_Fs {H : Hp} {qs : List Addr} {fs : List Fact} (h : Paired (FacV H) qs fs) : DpAll K H (qs.map V.ref) (fs.map dF) := by
  induction h with
  | nil => exact .nil
  | cons g t ih => exact .cons (dp_F g) ih
/-- what tables that keep facts keep, too -/
def Follows (fs : List Fact) (f : Fact) : Prop :=
  (f.1 = ("filled" : Str) ∧ Filled fs f.2.1.1) ∨ (f.1 = ("found" : Str) ∧ FoundI fs (cpOf f.2.1) (cpOf (f.2.2.getD (Str.empty, none)))) ∨ (f.1 = ("single" : Str) ∧ Lone fs f.2.1.1) ∨
  (f.1 = ("unique" : Str) ∧ (f ∈ fs ∨ Lone fs f.2.1.1)) ∨ (f.1 = ("sorted" : Str) ∧ (f ∈ fs ∨ Const fs (cpOf f.2.1)))
/-- a fact of one of the five words -/
def FWF (f : Fact) : Prop := okF f ∧ (((f.1 = ("single" : Str) ∨ f.1 = ("filled" : Str)) ∧ f.2.1.2 = none) ∨ ((f.1 = ("unique" : Str) ∨ f.1 = ("sorted" : Str)) ∧ ∃ c, f.2.1.2 = some c) ∨
  (f.1 = ("found" : Str) ∧ ∃ c u e, f.2.1.2 = some c ∧ f.2.2 = some (u, some e)))
theorem room65 {k : Nat} {A : Around} (r : Room k A) : A.units + 65 < cLine := by have := r.un; omega
def sp_follows (PC PF : Addr) : Sp := fun vs H Q _ => ∃ (l qf : Addr) (fs : List Fact) (f : Fact), vs = [.ref l, .ref qf] ∧ FactsL H l fs ∧ WF fs ∧ (∀ f ∈ fs, okF f) ∧ fs.length ≤ 100 ∧ FacV H qf f ∧ FWF f ∧ H PC = some (TabX PC) ∧ H PF = some (TabX PF) ∧
  ∀ (b : Bool) H', Same H H' → (b = true ↔ Follows fs f) → Q (.bl b) H'
theorem ok_follows (T : TX K mg) (B : TB T base) : FnOk P w K mg base CX0 7 T.a_follows T.fd_follows p_follows (sp_follows T.P_is_constant T.P_is_filled) := by
  classical
  refine T.F_follows.ok sc_follows (fun vs H Q E h => ?_) (fun cdv A outer s H vs Q E hr h => ?_)
  · obtain ⟨l, qf, fs, f, rfl, _⟩ := h
    rfl
  · obtain ⟨l, qf, fs, f, rfl, hF, hW, hok, h100, hf, hff, hP1, hP2, k⟩ := h
    refine ⟨_, (pss_cons (ps_asg (pv 1) (pg_tup rfl (pgs_cons (pg_name (i := 2) sc_follows.nd rfl (Or.inl rfl)) (pgs_cons (pg_name (i := 3) sc_follows.nd rfl (Or.inl rfl)) (pgs_cons (pg_name (i := 4) sc_follows.nd rfl (Or.inl rfl)) pgs_nil)))))
  (pss_cons (ps_set (i := 5) sc_follows.nd rfl (Or.inl rfl) (pe_ix ix_tup (pv 3) pe_int (fun _ _ => rfl)))
  (pss_cons (ps_if (pt_cmpR op_eq (pv 2) pe_str (nomark _)) (pss_one (ps_ret (pe_call (ok_is_filled T B) (hr.mono (by decide)) rfl T.g_is_filled T.F_is_filled.kp T.b_is_filled .nil pass0 (pa_cons (pv 0) (pa_cons (pv 5) pa_nil))))) pss_nil)
  (pss_cons (ps_if (pt_cmpR op_eq (pv 2) pe_str (nomark _)) (pss_one (ps_ret (pe_call (ok_is_found T B) (hr.mono (by decide)) rfl T.g_is_found T.F_is_found.kp T.b_is_found .nil pass0 (pa_cons (pv 0) (pa_cons (pv 3) (pa_cons (pv 4) pa_nil)))))) pss_nil)
  (pss_cons (ps_set (i := 6) sc_follows.nd rfl (Or.inl rfl) (pe_call (ok_lone_tables T B) (hr.mono (by decide)) rfl T.g_lone_tables T.F_lone_tables.kp T.b_lone_tables .nil pass0 (pa_cons (pv 0) pa_nil)))
  (pss_cons (ps_if (pt_cmpR op_eq (pv 2) pe_str (nomark _)) (pss_one (ps_ret (pe_cmp (pc_din (hu_of hr) (pv 5) (pv 6))))) pss_nil)
  (pss_cons (ps_if (pt_cmpR op_eq (pv 2) pe_str (nomark _)) (pss_one (ps_ret (pe_or (pe_cmpR (op_inD (room65 hr)) (pv 1) (pv 0) (by rfl)) (pe_one (pe_cmp (pc_din (hu_of hr) (pv 5) (pv 6))))))) pss_nil)
  (pss_one (ps_ret (pe_or (pe_cmpR (op_inD (room65 hr)) (pv 1) (pv 0) (by rfl)) (pe_one (pe_call (ok_is_constant T B) (hr.mono (by decide)) rfl T.g_is_constant T.F_is_constant.kp T.b_is_constant .nil pass0 (pa_cons (pv 0) (pa_cons (pv 6) (pa_cons (pv 3) pa_nil))))))))))))))), ?_⟩
    have hfv := hf
    obtain ⟨vp, vg, ef, ⟨qp, rfl, ep⟩, p2⟩ := hf
    have eqs : ∀ (x y : Str), decide (V.str x = V.str y) = decide (x = y) := fun x y => by
      by_cases h : x = y
      · rw [decide_eq_true h, decide_eq_true (by rw [h])]
      · rw [decide_eq_false h, decide_eq_false (fun z => h (V.str.inj z))]
    refine ⟨_, rfl, qf, _, rfl, SqT.of ef, rfl, _, _, rfl, _, _, rfl, _, _, rfl, rfl, ?_⟩
    refine ⟨_, rfl, qp, _, 0, _, rfl, rfl, SqT.of ep, atI_nat (k := 0) rfl, ?_⟩
    have n1 : ∀ {a b : Str}, a ≠ b → f.1 = a → f.1 ≠ b := fun h e z => h (by rw [← e, z])
    refine ⟨_, rfl, rfl, _, rfl, ?_⟩
    rw [eqs]
    by_cases c1 : f.1 = ("filled" : Str)
    · rw [decide_eq_true c1]
      refine iteT ⟨_, rfl, _, rfl, l, f.2.1.1, fs, rfl, hF, hW, h100, hP2, fun b H' s' hb => k b H' s' (hb.trans ⟨fun z => .inl ⟨c1, z⟩, fun z => ?_⟩)⟩
      rcases z with z | z | z | z | z
      · exact z.2
      · exact absurd z.1 (n1 (by decide +kernel) c1)
      · exact absurd z.1 (n1 (by decide +kernel) c1)
      · exact absurd z.1 (n1 (by decide +kernel) c1)
      · exact absurd z.1 (n1 (by decide +kernel) c1)
    rw [decide_eq_false c1]
    refine iteF ⟨_, rfl, rfl, _, rfl, ?_⟩
    rw [eqs]
    by_cases c2 : f.1 = ("found" : Str)
    · rw [decide_eq_true c2]
      obtain ⟨c, u, e, h1, h2⟩ : ∃ c u e, f.2.1.2 = some c ∧ f.2.2 = some (u, some e) := by
        rcases hff.2 with z | z | z
        · exact absurd c2 (z.1.elim (fun z => n1 (by decide +kernel) z) fun z => n1 (by decide +kernel) z)
        · exact absurd c2 (z.1.elim (fun z => n1 (by decide +kernel) z) fun z => n1 (by decide +kernel) z)
        · exact z.2
      have g1 := hff.1.2.1
      rw [h2] at p2
      obtain ⟨qg, rfl, eg⟩ := p2
      rw [h1] at ep
      have ex : cpOf f.2.1 = (f.2.1.1, c) := by unfold cpOf; rw [h1]; rfl
      refine iteT ⟨_, rfl, _, rfl, _, rfl, l, qp, qg, fs, (f.2.1.1, c), (u, e), rfl, hF, hW, h100, ep, ⟨g1.1, g1.2 c h1⟩, eg, hP1, hP2, fun b H' s' hb => k b H' s' (hb.trans ⟨fun z => .inr (.inl ⟨c2, ?_⟩), fun z => ?_⟩)⟩
      · rw [ex, h2]; exact z
      · rcases z with z | z | z | z | z
        · exact absurd z.1 c1
        · have z := z.2
          rw [ex, h2] at z; exact z
        · exact absurd z.1 (n1 (by decide +kernel) c2)
        · exact absurd z.1 (n1 (by decide +kernel) c2)
        · exact absurd z.1 (n1 (by decide +kernel) c2)
    rw [decide_eq_false c2]
    refine iteF ⟨_, rfl, l, fs, rfl, hF, hW, h100, hP1, fun dl H1 kvL SL hdl s1 e1 hkL hSL => ?_⟩
    refine ⟨_, rfl, rfl, _, rfl, ?_⟩
    rw [eqs]
    by_cases c3 : f.1 = ("single" : Str)
    · rw [decide_eq_true c3]
      refine iteT ⟨_, rfl, _, rfl, dl, _, rfl, DGet.k (k := .inr f.2.1.1) e1, ?_⟩
      rw [keys_val hkL]
      refine k _ H1 s1 ⟨fun z => .inr (.inr (.inl ⟨c3, (hSL _).mp (of_decide_eq_true z)⟩)), fun z => ?_⟩
      rcases z with z | z | z | z | z
      · exact absurd z.1 c1
      · exact absurd z.1 c2
      · exact decide_eq_true ((hSL _).mpr z.2)
      · exact absurd z.1 (n1 (by decide +kernel) c3)
      · exact absurd z.1 (n1 (by decide +kernel) c3)
    rw [decide_eq_false c3]
    obtain ⟨hw, c, hc⟩ : (f.1 = ("unique" : Str) ∨ f.1 = ("sorted" : Str)) ∧ ∃ c, f.2.1.2 = some c := by
      rcases hff.2 with z | z | z
      · exact z.1.elim (fun z => absurd z c3) fun z => absurd z c1
      · exact z
      · exact absurd z.1 c2
    have g1 := hff.1.2.1
    have ex : cpOf f.2.1 = (f.2.1.1, c) := by unfold cpOf; rw [hc]; rfl
    rw [hc] at ep
    obtain ⟨qs, el, hq⟩ := hF
    have inn : ∀ {H' : Hp}, Same H H' → Dp K H' (.ref qf) (dF f) ∧ Dp K H' (.ref l) (.list (fs.map dF)) := fun s => ⟨dp_F (hfv.same s), .lst (SqL.of (s _ _ el)) (dp_Fs (Paired.mapP hq fun q p z => z.same s))⟩
    obtain ⟨y1, y2⟩ := lay_F hff.1
    obtain ⟨y3, y4⟩ := lay_Fs hok
    have sh1 : SeqAt.shaped (dF f) = true := Bool.and_eq_true_iff.mpr ⟨y1, decide_eq_true (by omega)⟩
    have sh2 : SeqAt.shaped (.list (fs.map dF)) = true := Bool.and_eq_true_iff.mpr ⟨y3, decide_eq_true (by simp only [PyData.depth]; omega)⟩
    have any : (fs.map dF).any (fun z => PyData.eqv z (dF f)) = decide (f ∈ fs) := by
      rw [List.any_map]
      by_cases h : f ∈ fs
      · rw [decide_eq_true h]
        exact List.any_eq_true.mpr ⟨f, h, by show PyData.eqv (dF f) (dF f) = true; rw [eqv_F, decide_eq_true rfl]⟩
      · rw [decide_eq_false h, List.any_eq_false]
        intro g hg z
        have z : PyData.eqv (dF g) (dF f) = true := z
        rw [eqv_F] at z
        exact h (by rw [← of_decide_eq_true z]; exact hg)
    have hF1 : FactsL H1 l fs := ⟨qs, s1 _ _ el, Paired.mapP hq fun q p z => z.same s1⟩
    refine iteF ⟨_, rfl, rfl, _, rfl, ?_⟩
    rw [eqs]
    by_cases c4 : f.1 = ("unique" : Str)
    · rw [decide_eq_true c4]
      have iff4 : Follows fs f ↔ f ∈ fs ∨ Lone fs f.2.1.1 := ⟨fun z => by
        rcases z with z | z | z | z | z
        · exact absurd z.1 c1
        · exact absurd z.1 c2
        · exact absurd z.1 c3
        · exact z.2
        · exact absurd z.1 (n1 (by decide +kernel) c4), fun z => .inr (.inr (.inr (.inl ⟨c4, z⟩)))⟩
      refine iteT ⟨_, rfl, _, rfl, dF f, _, (inn s1).1, (inn s1).2, sh1, sh2, ?_⟩
      rw [any]
      refine ⟨_, rfl, ?_⟩
      by_cases h : f ∈ fs
      · rw [decide_eq_true h]
        exact iteT (k true H1 s1 ⟨fun _ => iff4.mpr (.inl h), fun _ => rfl⟩)
      · rw [decide_eq_false h]
        refine iteF ⟨_, rfl, _, rfl, dl, _, rfl, DGet.k (k := .inr f.2.1.1) e1, ?_⟩
        rw [keys_val hkL]
        exact k _ H1 s1 ⟨fun z => iff4.mpr (.inr ((hSL _).mp (of_decide_eq_true z))), fun z => decide_eq_true ((hSL _).mpr ((iff4.mp z).resolve_left h))⟩
    · rw [decide_eq_false c4]
      have c5 := hw.resolve_left c4
      have iff5 : Follows fs f ↔ f ∈ fs ∨ Const fs (f.2.1.1, c) := ⟨fun z => by
        rcases z with z | z | z | z | z
        · exact absurd z.1 c1
        · exact absurd z.1 c2
        · exact absurd z.1 c3
        · exact absurd z.1 c4
        · rw [ex] at z; exact z.2, fun z => .inr (.inr (.inr (.inr ⟨c5, by rw [ex]; exact z⟩)))⟩
      refine iteF ⟨_, rfl, _, rfl, dF f, _, (inn s1).1, (inn s1).2, sh1, sh2, ?_⟩
      rw [any]
      refine ⟨_, rfl, ?_⟩
      by_cases h : f ∈ fs
      · rw [decide_eq_true h]
        exact iteT (k true H1 s1 ⟨fun _ => iff5.mpr (.inl h), fun _ => rfl⟩)
      · rw [decide_eq_false h]
        refine iteF ⟨_, rfl, _, rfl, _, rfl, l, dl, qp, fs, SL, kvL, (f.2.1.1, c), rfl, hF1, hW, h100, e1, hkL, s1 _ _ ep, ⟨g1.1, g1.2 c hc⟩, s1 _ _ hP1, fun b H2 s2 hb => k b H2 (s1.trans s2) (hb.trans ((const_iff hSL).trans ⟨fun z => iff5.mpr (.inr z), fun z => (iff5.mp z).resolve_left h⟩))⟩
end
end L2.Pf
set_option maxHeartbeats 2000000
namespace L2.Pf
open PySem PySem.Spec PyProof.Rows L2.Ev L2.Tpd L2.Seti L2.Gq L2.Enf L2.Sett L2.Itr L2.Dls L2.Own L2.Dsp L2.Dcs L2.Vls
section
variable {P : Program} {w : World} {K : PySem.W.Frag} {mg : Str → Option Value} {base : Heap}
/-- names that can be written -/
def OkN (tabs : Tabs) : Prop := ∀ t ∈ tabs, PyData.strOk t.1 = true ∧ ∀ y ∈ t.2, PyData.strOk y = true
theorem imp_strs {x : Str} : ∀ {ys : List Str}, inV (.str x) (ys.map V.str) = true ↔ x ∈ ys
  | [] => ⟨fun z => (by have z2 : false = true := z; cases z2), fun z => absurd z List.not_mem_nil⟩
  | y :: r => by
    have e : inV (.str x) ((y :: r).map V.str) = (eqV (.str y) (.str x) || inV (.str x) (r.map V.str)) := rfl
    rw [e, Bool.or_eq_true, imp_strs (ys := r), eqV_str, decide_eq_true_iff, List.mem_cons]
    exact ⟨fun z => z.imp Eq.symm id, fun z => z.imp Eq.symm id⟩
theorem rd_table {tabs : Tabs} {x : Str} {p : Place} (O : OkN tabs) (h : readTable tabs x = some p) : p.2 = none ∧ okPl p := by
  unfold readTable at h
  split at h
  · rename_i c
    cases h
    have c2 : inV (.str x) ((tabs.map (·.1)).map V.str) = true := by rw [List.map_map]; exact c
    obtain ⟨t, ht, e⟩ := List.mem_map.mp (imp_strs.mp c2)
    exact ⟨rfl, by rw [← e]; exact (O t ht).1, fun c e => by cases e⟩
  · cases h
theorem rd_column {tabs : Tabs} {x : Str} {p : Place} (O : OkN tabs) (h : readColumn tabs x = some p) : ∃ c, p.2 = some c ∧ okCP (p.1, c) := by
  unfold readColumn at h
  split at h
  · rename_i cs e
    split at h
    · rename_i c
      cases h
      have hm := List.mem_of_find?_eq_some (cols_find e)
      exact ⟨_, rfl, (O _ hm).1, (O _ hm).2 _ (imp_strs.mp c)⟩
    · cases h
  · cases h
theorem okPl_of {p : Place} {c : Str} (e : p.2 = some c) (h : okCP (p.1, c)) : okPl p := ⟨h.1, fun c' e' => by rw [e] at e'; cases e'; exact h.2⟩
theorem rd_words {tabs : Tabs} {ws : List Str} {f : Fact} (O : OkN tabs) (h : readWords tabs ws = some f) : FWF f ∧ WFf f ∧ WFu f := by
  have two : ∀ {a b x : Str} {l : List V}, l = [.str a, .str b] → inV (.str x) l = true → x = a ∨ x = b := fun {a b x l} e h => by
    subst e
    have z := imp_strs (x := x) (ys := [a, b]) |>.mp h
    simpa using z
  have ne : ∀ {a b c : Str}, a = b → b ≠ c → a ≠ c := fun e n z => n (by rw [← e, z])
  unfold readWords at h
  split at h
  · rename_i c
    obtain ⟨p, e, rfl⟩ := Option.map_eq_some_iff.mp h
    obtain ⟨h1, h2⟩ := rd_table O e
    have hw := two (a := "single") (b := "filled") rfl c.2
    have ok : PyData.strOk (wordAt ws 0) = true := by rcases hw with e | e <;> rw [e] <;> decide +kernel
    refine ⟨⟨⟨ok, h2, fun g e => by cases e⟩, .inl ⟨hw, h1⟩⟩, fun z => ?_, fun z => ?_⟩
    · rcases hw with e | e
      · exact absurd z (ne e (by decide +kernel))
      · exact absurd z (ne e (by decide +kernel))
    · rcases hw with e | e
      · exact absurd z (ne e (by decide +kernel))
      · exact absurd z (ne e (by decide +kernel))
  · split at h
    · rename_i c
      obtain ⟨p, e, rfl⟩ := Option.map_eq_some_iff.mp h
      obtain ⟨y, h1, h2⟩ := rd_column O e
      have hw := two (a := "unique") (b := "sorted") rfl c.2
      have ok : PyData.strOk (wordAt ws 0) = true := by rcases hw with e | e <;> rw [e] <;> decide +kernel
      refine ⟨⟨⟨ok, okPl_of h1 h2, fun g e => by cases e⟩, .inr (.inl ⟨hw, y, h1⟩)⟩, fun z => ?_, fun z => ⟨p.1, y, by rw [← h1], h2⟩⟩
      rcases hw with e | e
      · exact absurd z (ne e (by decide +kernel))
      · exact absurd z (ne e (by decide +kernel))
    · split at h
      · rename_i c
        obtain ⟨g, e1, e⟩ := Option.bind_eq_some_iff.mp h
        obtain ⟨p, e2, rfl⟩ := Option.map_eq_some_iff.mp e
        obtain ⟨y, h1, h2⟩ := rd_column O e2
        obtain ⟨z, h3, h4⟩ := rd_column O e1
        have ok : PyData.strOk (wordAt ws 0) = true := by rw [c.2.1]; decide +kernel
        refine ⟨⟨⟨ok, okPl_of h1 h2, fun g' e' => by cases e'; exact okPl_of h3 h4⟩, .inr (.inr ⟨c.2.1, y, g.1, z, h1, by rw [← h3]⟩)⟩, fun _ => ⟨p.1, y, g.1, z, by rw [← h1], by rw [← h3], h2, h4⟩, fun q => ?_⟩
        exact absurd q (ne c.2.1 (by decide +kernel))
      · cases h
/-- the facts of some lines -/
def factsOf (tabs : Tabs) (ls : List Str) : List Fact := (onces ls).filterMap fun x => readWords tabs (Txt.split x " ")
theorem facts_wf {tabs : Tabs} {ls : List Str} (O : OkN tabs) : WF (factsOf tabs ls) ∧ ∀ f ∈ factsOf tabs ls, okF f := by
  have k : ∀ f ∈ factsOf tabs ls, FWF f ∧ WFf f ∧ WFu f := fun f hf => by
    obtain ⟨x, _, e⟩ := List.mem_filterMap.mp hf
    exact rd_words O e
  exact ⟨fun f hf => (k f hf).2, fun f hf => (k f hf).1.1⟩
theorem facts_vals {H : Hp} {tabs : Tabs} : ∀ {kvs : List (L2.Key × V)} {L : List Str}, kvs.map (·.1) = L.map Sum.inr → FactsVals H tabs kvs →
    ∃ qs : List Addr, kvs.map (·.2) = qs.map V.ref ∧ Paired (FacV H) qs (L.filterMap fun x => readWords tabs (Txt.split x " "))
  | [], [], _, _ => ⟨[], rfl, .nil⟩
  | [], _ :: _, h, _ => by cases h
  | _ :: _, [], h, _ => by cases h
  | kv :: r, y :: L, h, hv => by
    rw [List.map_cons, List.map_cons] at h
    injection h with h1 h2
    obtain ⟨x, f, q, vp, vg, e, e2, e3, e4, e5⟩ := hv kv List.mem_cons_self
    obtain ⟨qs, a, b⟩ := facts_vals h2 fun kv hkv => hv kv (List.mem_cons_of_mem _ hkv)
    subst e
    have ex : x = y := Sum.inr.inj h1
    subst ex
    refine ⟨q :: qs, by rw [List.map_cons, a]; rfl, ?_⟩
    rw [List.filterMap_cons, e2]
    exact .cons ⟨vp, vg, e3, e4, e5⟩ b
theorem onces_le (ls : List Str) : (onces ls).length ≤ ls.length := by
  have key : ∀ (ls acc : List Str), (ls.foldl once acc).length ≤ acc.length + ls.length := by
    intro ls
    induction ls with
    | nil => intro acc; exact Nat.le_refl _
    | cons a r ih =>
      intro acc
      rw [List.foldl_cons, List.length_cons]
      have z := once_len (acc := acc) (x := a)
      have z2 := ih (once acc a)
      omega
  have z := key ls []
  rw [List.length_nil, Nat.zero_add] at z
  exact z
theorem facts_len (tabs : Tabs) (ls : List Str) : (factsOf tabs ls).length ≤ ls.length := Nat.le_trans (List.length_filterMap_le _ _) (onces_le ls)
def sp_implies (C CS CB PC PF : Addr) : Sp := fun vs H Q E => ∃ (f : Addr) (x : Str) (tabs : Tabs) (ls : List Str), vs = [.ref f, .str x] ∧ FactsAt C CS tabs H f ls ∧ OkN tabs ∧ x.length ≤ 10000 ∧ (∀ y ∈ Txt.split x " ", y.length ≤ 10000) ∧ ls.length ≤ 100 ∧ H PC = some (TabX PC) ∧ H PF = some (TabX PF) ∧
  (∀ g (b : Bool) H', readWords tabs (Txt.split x " ") = some g → Same H H' → (b = true ↔ Follows (factsOf tabs ls) g) → Q (.bl b) H') ∧
  (∀ H' dx, readWords tabs (Txt.split x " ") = none → Same H H' → H' dx = some (.xd [("index", .int 0)]) → E (.ref CB) (some dx) H')
theorem ok_Facts_implies (T : TX K mg) (B : TB T base) : FnOk P w K mg base (L2.CX P w) 8 T.a_Facts_implies T.fd_Facts_implies p_Facts_implies (sp_implies T.C_Facts T.C_Schema T.x_BadFact.C T.P_is_constant T.P_is_filled) := by
  refine Fun.okX T.F_Facts_implies sc_Facts_implies (fun vs H Q E h => ?_) (fun cdv A outer s H vs Q E hr h => ?_)
  · obtain ⟨f, x, tabs, ls, rfl, _⟩ := h
    rfl
  · obtain ⟨f, x, tabs, ls, rfl, ⟨dx, df, sc, of, kvs, f1, f2, f3, f4, f5⟩, O, hx, hxs, hl, hP1, hP2, kq, ke⟩ := h
    refine ⟨_, (pss_cons (ps_set (i := 2) sc_Facts_implies.nd rfl (Or.inl rfl) (pe_call (ok_read_fact T B) (hr.mono (by decide)) rfl T.g_read_fact T.F_read_fact.kp T.b_read_fact .nil pass0 (pa_cons (pe_fld (pv 0) rfl) (pa_cons (pv 1) pa_nil))))
  (pss_cons (ps_if (pt_cmpR op_isN (pv 2) pe_non (nomark _)) (pss_one (ps_raise rfl (takes_of rfl rfl rfl rfl) (pmk_oex T.x_BadFact.oex T.i_BadFact_init T.t_BadFact_init (ok_BadFact_init T) (hr.mono (by decide)) T.b_BadFact_init .nil pass0 (by rfl) T.x_BadFact.g (pa_cons pe_int pa_nil)))) pss_nil)
  (pss_one (ps_ret (pe_call (ok_follows T B) (hr.mono (by decide)) rfl T.g_follows T.F_follows.kp T.b_follows .nil pass0 (pa_cons (pe_callTy (list_ofV rfl) (by rfl) T.z_list (by decide +kernel) (pa_cons (pe_vals (pe_fld (pv 0) rfl)) pa_nil)) (pa_cons (pv 2) pa_nil))))))), ?_⟩
    refine ⟨_, rfl, f, T.C_Facts, dx, _, _, rfl, f1, T.cl_Facts, T.n_Facts__schema, rfl, _, rfl, sc, x, tabs, rfl, hx, hxs, f5, fun v H1 s1 hv => ?_⟩
    refine ⟨_, rfl, rfl, _, rfl, ?_⟩
    cases hg : readWords tabs (Txt.split x " ") with
    | none =>
      rw [hg] at hv
      have hv : v = .non := hv
      subst hv
      refine iteT ?_
      refine ⟨(by show 1 ≤ 1000; decide), fun ea hea => ⟨ea, _, rfl, upd_same, fun dx n ne => ⟨rfl, dx, [("index", .int 0)], upd_same, by rw [upd_ne ne, upd_same], ?_, ?_⟩⟩⟩
      · rw [upd_ne ne] at n; exact n
      · have hdx : H1 dx = none := by rw [upd_ne ne] at n; exact n
        refine ke _ dx hg (fun b o e => ?_) upd_same
        have e9 := s1 _ _ e
        have nb1 : b ≠ dx := fun z => by rw [z, hdx] at e9; cases e9
        have nb2 : b ≠ ea := fun z => by rw [z, hea] at e9; cases e9
        rw [upd_ne nb1]
        unfold del
        rw [if_neg nb2, upd_ne nb2, upd_ne nb1, upd_ne nb2]
        exact e9
    | some g =>
      rw [hg] at hv
      obtain ⟨q, pv', gv', rfl, e1, e2, e3⟩ := hv
      refine iteF ?_
      obtain ⟨qs, a, b⟩ := facts_vals f3 f4
      refine ⟨_, rfl, f, T.C_Facts, dx, _, _, rfl, s1 _ _ f1, T.cl_Facts, T.n_Facts__facts, rfl, df, of, kvs, rfl, s1 _ _ f2, fun vw hvw => ?_⟩
      have s2 : Same H1 (upd H1 vw (ViewO vw df)) := Same.new (Same.refl _) hvw
      have e4 : (upd H1 vw (ViewO vw df)) vw = some (ViewO vw df) := upd_same
      generalize upd H1 vw (ViewO vw df) = H2 at s2 e4
      refine ⟨vw, df, of, kvs, rfl, e4, s2 _ _ (s1 _ _ f2), fun l H3 hl3 s3 e5 => ?_⟩
      have s03 := (s1.trans s2).trans s3
      rw [a] at e5
      obtain ⟨w1, w2⟩ := facts_wf (ls := ls) O
      obtain ⟨w3, _⟩ := rd_words O hg
      refine ⟨_, rfl, l, q, factsOf tabs ls, g, rfl, ⟨qs, e5, Paired.mapP b fun q f z => z.same s03⟩, w1, w2, Nat.le_trans (facts_len tabs ls) hl, FacV.same ⟨pv', gv', e1, e2, e3⟩ (s2.trans s3), w3, s03 _ _ hP1, s03 _ _ hP2, fun b H4 s4 hb => kq g b H4 hg (s03.trans s4) hb⟩
end
end L2.Pf
set_option maxHeartbeats 2000000
namespace L2.Pf
open PySem PySem.Spec PyProof.Rows L2.Ev L2.Tpd L2.Seti L2.Gq L2.Enf L2.Sett L2.Itr L2.Dls L2.Own L2.Ent
section
variable {P : Program} {w : World} {K : PySem.W.Frag} {mg : Str → Option Value} {base : Heap}
theorem cut_to (xs : List V) {z : Int} {k : Nat} (e : z = (k : Int)) (hk : k ≤ 1000000) : cutV xs none (some z) = xs.take k := by
  subst e
  unfold cutV
  rw [HT.sIx_none, HT.sIx_nat, List.drop_zero, Nat.sub_zero]
  by_cases h : k ≤ xs.length
  · rw [Nat.min_eq_left h]
  · rw [Nat.min_eq_right (by omega), List.take_of_length_le (Nat.le_refl _), List.take_of_length_le (by omega)]
def sp_begun_pen (K : PySem.W.Frag) : Sp := fun vs H Q _ => ∃ (a : Addr) (ns : List Int), vs = [.ref a] ∧ SqL K H a (ns.map V.int) ∧ ns.length ≤ 63 ∧
  ∀ p c H', H p = none → H c = none → Same H H' → Pen H' p c ns 0 → Q (.ref p) H'
theorem ok_begun_pen (T : TX K mg) (B : TB T base) : FnOk P w K mg base CX0 1 T.a_begun_pen T.fd_begun_pen p_begun_pen (sp_begun_pen K) := by
  refine T.F_begun_pen.ok sc_begun_pen (fun vs H Q E h => ?_) (fun cdv A outer s H vs Q E hr h => ?_)
  · obtain ⟨a, ns, rfl, _⟩ := h
    rfl
  · obtain ⟨a, ns, rfl, hS, hl, k⟩ := h
    refine ⟨_, (pss_one (ps_ret (pe_disp (pps_cons pe_str (pe_callTy call_list_of (by rfl) T.z_list (by decide +kernel) (pa_cons (pe_slice sl_list (pv 0) po_none (po_some pe_int)) pa_nil)) (pps_cons pe_str pe_int (pps_cons pe_str pe_int pps_nil))) (by rfl) (by rfl) (fun z => by cases z) (by decide)))), ?_⟩
    intro p hp
    have hS1 : SqL K (upd H p (.dK [])) a (ns.map V.int) := (Same.new (Same.refl H) hp).seq hS
    refine ⟨_, rfl, _, rfl, a, _, rfl, hS1, fun c hc => ?_⟩
    have e1 : cutV (ns.map V.int) none (some 63) = ns.map V.int := by
      rw [cut_to _ (z := 63) (k := 63) rfl (by decide), List.take_of_length_le (by rw [List.length_map]; exact hl)]
    rw [e1]
    refine ⟨c, _, rfl, .inl (SqL.of upd_same), fun d hd => ?_⟩
    have hcp : c ≠ p := fun z => by
      rw [z, upd_same] at hc
      cases hc
    have hc0 : H c = none := by
      rw [upd_ne hcp] at hc
      exact hc
    have hdp : d ≠ p := fun z => by
      rw [z, upd_ne (Ne.symm hcp), upd_same] at hd
      cases hd
    have hdc : d ≠ c := fun z => by
      rw [z, upd_same] at hd
      cases hd
    have hd0 : H d = none := by
      rw [upd_ne hdc, upd_ne hdp] at hd
      exact hd
    refine ⟨by rw [upd_ne (Ne.symm hdp), upd_ne (Ne.symm hcp), upd_same], penD d 0 0, rfl, (by show 3 ≤ 15; decide), ?_⟩
    refine k p d _ hp hd0 (Same.own (Same.own (Same.own (Same.own (Same.refl H) hp) hc0) hd0) hp) ⟨⟨0, 0, upd_same, by decide, by decide⟩, ?_, hl⟩
    rw [upd_ne hdp, upd_same]
def sp_draw : Sp := fun vs H Q _ => ∃ (p c : Addr) (ns : List Int) (n : Nat) (span : Int), vs = [.ref p, .int span] ∧ Pen H p c ns n ∧ n ≤ 2 ^ 60 ∧ 0 < span ∧ span.natAbs < 2 ^ 8000 ∧
  ∀ d H', 0 ≤ d → d < span → Pen H' p c ns (n + 1) → But p H H' → Q (.int d) H'
theorem mod_in {a b : Int} (h : 0 < b) : 0 ≤ a % b ∧ a % b < b := ⟨Int.emod_nonneg _ (by omega), Int.emod_lt_of_pos _ h⟩
theorem ok_draw (T : TX K mg) (B : TB T base) : FnOk P w K mg base CX0 1 T.a_draw T.fd_draw p_draw sp_draw := by
  refine T.F_draw.ok sc_draw (fun vs H Q E h => ?_) (fun cdv A outer s H vs Q E hr h => ?_)
  · obtain ⟨p, c, ns, n, span, rfl, _⟩ := h
    rfl
  · obtain ⟨p, c, ns, n, span, rfl, hp, hn, h0, h9, k⟩ := h
    refine ⟨_, (pss_cons (ps_if (pt_cmpR op_gt (pe_dget (hu_of hr) (pv 0) pe_str (fun _ _ => rfl)) pe_int (nomark _)) (pss_cons (ps_set (i := 2) sc_draw.nd rfl (Or.inl rfl) (pe_op op_mod (pe_callTy call_int1 (by rfl) T.z_int (by decide +kernel) (pa_cons (pe_dget (hu_of hr) (pv 0) pe_str (fun _ _ => rfl)) pa_nil)) (pv 1)))
  (pss_cons (ps_dput (hu_of hr) (pv 0) pe_str (pe_op op_fdivW (pe_dget (hu_of hr) (pv 0) pe_str (fun _ _ => rfl)) (pv 1)) rfl)
  (pss_one (ps_ret (pv 2))))) pss_nil)
  (pss_cons (ps_set (i := 3) sc_draw.nd rfl (Or.inl rfl) (pe_dget (hu_of hr) (pv 0) pe_str (fun _ _ => rfl)))
  (pss_cons (ps_dput (hu_of hr) (pv 0) pe_str (pe_op op_add (pv 3) pe_int) rfl)
  (pss_cons (ps_set (i := 4) sc_draw.nd rfl (Or.inl rfl) (pe_op op_add (pe_op op_mul pe_int (pv 3)) pe_int))
  (pss_join (ps_if (pt_cmpR (op_neNil hr.units0) (pe_dget (hu_of hr) (pv 0) pe_str (fun _ _ => rfl)) (pe_lst pa_nil) (nomark _)) (pss_one (ps_set (i := 4) sc_draw.nd rfl (Or.inl rfl) (pe_ix ix_list (pe_dget (hu_of hr) (pv 0) pe_str (fun _ _ => rfl)) (pe_op op_mod (pe_callTy call_int1 (by rfl) T.z_int (by decide +kernel) (pa_cons (pv 3) pa_nil)) (pe_callB call_len_seq (by rfl) T.z_len (by decide +kernel) (pa_cons (pe_dget (hu_of hr) (pv 0) pe_str (fun _ _ => rfl)) pa_nil))) (fun _ _ => rfl)))) pss_nil)
  (pss_join (ps_if (PW.pt (pw_and (pt_cmpR op_lt (pv 3) (pe_callB call_len_seq (by rfl) T.z_len (by decide +kernel) (pa_cons (pe_dget (hu_of hr) (pv 0) pe_str (fun _ _ => rfl)) pa_nil)) (nomark _)) (pw_and1 (pt_cmpR op_ge (pe_callB call_abs (by rfl) T.z_abs (by decide +kernel) (pa_cons (pv 4) pa_nil)) (pe_op op_pow pe_int pe_int) (nomark _))))) (pss_cons (ps_dput (hu_of hr) (pv 0) pe_str (pe_op op_fdivW (pe_op op_sub (pe_callB call_abs (by rfl) T.z_abs (by decide +kernel) (pa_cons (pv 4) pa_nil)) (pe_op op_pow pe_int pe_int)) (pv 1)) rfl)
  (pss_one (ps_ret (pe_op op_mod (pe_callTy call_int1 (by rfl) T.z_int (by decide +kernel) (pa_cons (pe_op op_sub (pe_callB call_abs (by rfl) T.z_abs (by decide +kernel) (pa_cons (pv 4) pa_nil)) (pe_op op_pow pe_int pe_int)) pa_nil)) (pv 1))))) pss_nil)
  (pss_cons (ps_set (i := 5) sc_draw.nd rfl (Or.inl rfl) (pe_op op_mul (pe_op op_mod (pe_callTy call_int1 (by rfl) T.z_int (by decide +kernel) (pa_cons (pv 4) pa_nil)) pe_int) pe_int))
  (pss_cons (ps_set (i := 5) sc_draw.nd rfl (Or.inl rfl) (pe_op op_mod (pe_callTy call_int1 (by rfl) T.z_int (by decide +kernel) (pa_cons (pe_op op_add (pe_op op_add (pv 5) (pe_op op_mul (pv 3) (pe_op op_add (pe_op op_mul (pv 3) pe_int) pe_int))) pe_int) pa_nil)) pe_int))
  (pss_cons (ps_set (i := 5) sc_draw.nd rfl (Or.inl rfl) (pe_op op_mod (pe_callTy call_int1 (by rfl) T.z_int (by decide +kernel) (pa_cons (pe_op op_mul (pv 5) (pe_op op_add (pv 5) pe_int)) pa_nil)) pe_int))
  (pss_cons (ps_set (i := 5) sc_draw.nd rfl (Or.inl rfl) (pe_op op_mod (pe_callTy call_int1 (by rfl) T.z_int (by decide +kernel) (pa_cons (pe_op op_add (pe_op op_add (pe_op op_mul (pv 5) (pv 5)) (pe_op op_mul pe_int (pv 5))) (pe_op op_mul pe_int (pv 3))) pa_nil)) pe_int))
  (pss_one (ps_ret (pe_op op_mod (pe_callTy call_int1 (by rfl) T.z_int (by decide +kernel) (pa_cons (pe_op op_fdiv (pe_op op_mod (pe_callTy call_int1 (by rfl) T.z_int (by decide +kernel) (pa_cons (pe_op op_mul (pv 5) (pe_op op_add (pv 5) pe_int)) pa_nil)) pe_int) pe_int) pa_nil)) (pv 1)))))))))))))), ?_⟩
    obtain ⟨⟨t, l, hd, ht0, htn⟩, hc, hlen⟩ := id hp
    have hdig : ∀ z : Int, 0 ≤ z % span ∧ z % span < span := fun z => mod_in h0
    have hdv : ∀ z : Int, CDivW z span := fun z => wide_div h0 h9 (by decide) (by decide)
    refine ⟨_, rfl, p, _, rfl, pen_left hd, _, _, rfl, rfl, _, rfl, ?_⟩
    refine ite2 (fun hl0 => ?_) (fun hl0 => ?_)
    · refine ⟨_, rfl, p, _, rfl, pen_left hd, .inl ⟨_, rfl, _, rfl, _, _, rfl, rfl, h0, ?_⟩⟩
      refine ⟨_, rfl, p, _, rfl, pen_left hd, _, rfl, _, _, rfl, rfl, hdv _, _, rfl, p, _, rfl, pen_put_left hd, ?_⟩
      refine ⟨_, rfl, ?_⟩
      exact k _ _ (hdig l).1 (hdig l).2 ((hp.dput ht0 htn).mono (Nat.le_succ n)) (But.self (But.refl p H))
    · refine ⟨_, rfl, p, _, rfl, pen_turn hd, ?_⟩
      refine ⟨_, rfl, _, _, rfl, rfl, _, rfl, p, _, rfl, pen_put_turn hd, ?_⟩
      have hp1 : Pen (upd H p (.dK (penD c (t + 1) l))) p c ns (n + 1) := by
        refine (hp.mono (Nat.le_succ n)).dput (by omega) (by push_cast; omega)
      have hd1 : (upd H p (.dK (penD c (t + 1) l))) p = some (.dK (penD c (t + 1) l)) := upd_same
      have hb1 : But p H (upd H p (.dK (penD c (t + 1) l))) := But.self (But.refl p H)
      generalize upd H p (.dK (penD c (t + 1) l)) = H1 at hp1 hd1 hb1
      have hc1 := hp1.cells
      refine ⟨_, rfl, _, _, rfl, rfl, .inl ⟨by decide, by decide⟩, _, _, rfl, rfl, ?_⟩
      -- the cell
      refine ⟨fun σ H2 => ∃ z : Int, σ = [some (.ref p), some (.int span), none, some (.int t), some (.int z), none] ∧ Pen H2 p c ns (n + 1) ∧ But p H H2 ∧ H2 p = some (.dK (penD c (t + 1) l)), ?_, ?_⟩
      · refine ⟨_, rfl, p, _, rfl, pen_cells hd1, Nat.zero_le _, fun q hq => ?_⟩
        refine ⟨c, q, _, rfl, rfl, SqL.of (by rw [upd_ne (ne_of_none hc1 hq)]; exact hc1), SqL.of upd_same, _, rfl, ?_⟩
        have hp2 := hp1.new (o := .lst []) hq
        have hd2 : (upd H1 q (.lst [])) p = some (.dK (penD c (t + 1) l)) := by rw [upd_ne (ne_of_none hd1 hq)]; exact hd1
        have hb2 : But p H (upd H1 q (.lst [])) := But.new hb1 hq
        generalize upd H1 q (.lst []) = H2 at hp2 hd2 hb2
        have hc2 := hp2.cells
        cases ns with
        | nil => exact iteF ⟨_, rfl, hp2, hb2, hd2⟩
        | cons x xs =>
          refine iteT ?_
          have hL : (0 : Int) < ((((x :: xs).map V.int).length : Nat) : Int) := by simp
          obtain ⟨m0, m1⟩ := mod_in (a := t) hL
          obtain ⟨j, hj⟩ := Int.eq_ofNat_of_zero_le m0
          have hj2 : j < (x :: xs).length := by
            rw [hj, List.length_map] at m1
            exact Int.ofNat_lt.mp m1
          refine ⟨_, rfl, p, _, rfl, pen_cells hd2, _, rfl, .inl ⟨_, rfl, _, rfl, p, _, rfl, pen_cells hd2, c, _, rfl, .inl (SqL.of hc2), _, _, rfl, rfl, hL, ?_⟩⟩
          refine ⟨c, _, _, .int ((x :: xs)[j]'hj2), rfl, rfl, SqL.of hc2, at_of hj (by rw [List.getElem?_map, List.getElem?_eq_getElem hj2]; rfl), ?_⟩
          exact ⟨_, rfl, hp2, hb2, hd2⟩
      · rintro σ H2 ⟨z, rfl, hp2, hb2, hd2⟩
        have hc2 := hp2.cells
        have fin : ∀ u : Int, Q (.int (u % span)) H2 := fun u => k _ _ (hdig u).1 (hdig u).2 hp2 hb2
        refine ⟨fun σ H3 => σ = [some (.ref p), some (.int span), none, some (.int t), some (.int z), none] ∧ H3 = H2, ?_, ?_⟩
        · refine ⟨_, rfl, _, rfl, p, _, rfl, pen_cells hd2, c, _, rfl, .inl (SqL.of hc2), _, _, rfl, rfl, _, rfl, ?_⟩
          refine ite2 (fun _ => ?_) (fun _ => iteF ⟨rfl, rfl⟩)
          refine ⟨_, rfl, _, rfl, _, _, rfl, rfl, ⟨by decide, by decide, by decide⟩, _, _, rfl, rfl, _, rfl, ?_⟩
          refine ite2 (fun _ => ?_) (fun _ => ⟨rfl, rfl⟩)
          refine ⟨_, rfl, _, rfl, _, _, rfl, rfl, ⟨by decide, by decide, by decide⟩, _, _, rfl, rfl, _, rfl, _, _, rfl, rfl, hdv _, _, rfl, p, _, rfl, pen_put_left hd2, ?_⟩
          refine ⟨_, rfl, _, rfl, _, _, rfl, rfl, ⟨by decide, by decide, by decide⟩, _, _, rfl, rfl, .inl ⟨_, rfl, _, rfl, _, _, rfl, rfl, h0, ?_⟩⟩
          exact k _ _ (hdig _).1 (hdig _).2 (hp2.dput (by omega) (by push_cast; omega)) (But.self hb2)
        · rintro σ H3 ⟨rfl, rfl⟩
          refine ⟨_, rfl, .inl ⟨_, rfl, _, _, rfl, rfl, (by show (0 : Int) < _; decide), _, _, rfl, rfl, .inr ⟨by decide, by decide⟩, ?_⟩⟩
          obtain ⟨a0, a1⟩ := mod_in (a := z) (b := 4294967087) (by decide)
          generalize z % 4294967087 * 48611 = y1
          refine ⟨_, rfl, _, rfl, _, rfl, _, _, rfl, rfl, .inr ⟨by decide, by decide⟩, _, _, rfl, rfl, _, _, rfl, rfl, .inl ⟨by omega, by omega⟩, _, _, rfl, rfl, _, _, rfl, rfl, .inl ⟨_, rfl, _, _, rfl, rfl, (by show (0 : Int) < _; decide), ?_⟩⟩
          obtain ⟨b0, b1⟩ := mod_in (a := y1 + t * (t * 27919 + 10601) + 41) (b := 4294967029) (by decide)
          generalize (y1 + t * (t * 27919 + 10601) + 41) % 4294967029 = y2 at b0 b1
          refine ⟨_, rfl, _, rfl, _, _, rfl, rfl, _, _, rfl, rfl, .inl ⟨by omega, by omega⟩, .inl ⟨_, rfl, _, _, rfl, rfl, (by show (0 : Int) < _; decide), ?_⟩⟩
          obtain ⟨c0, c1⟩ := mod_in (a := y2 * (y2 + 75013)) (b := 4294966997) (by decide)
          generalize y2 * (y2 + 75013) % 4294966997 = y3 at c0 c1
          refine ⟨_, rfl, _, rfl, _, _, rfl, rfl, .inl ⟨by omega, by omega⟩, _, rfl, _, _, rfl, rfl, .inl ⟨by decide, by decide⟩, _, _, rfl, rfl, _, rfl, _, _, rfl, rfl, .inl ⟨by decide, by decide⟩, _, _, rfl, rfl, .inl ⟨_, rfl, _, _, rfl, rfl, (by show (0 : Int) < _; decide), ?_⟩⟩
          obtain ⟨e0, e1⟩ := mod_in (a := y3 * y3 + 30427 * y3 + 19 * t) (b := 4294966981) (by decide)
          generalize (y3 * y3 + 30427 * y3 + 19 * t) % 4294966981 = y4 at e0 e1
          refine ⟨_, rfl, _, rfl, _, _, rfl, rfl, _, _, rfl, rfl, .inl ⟨by omega, by omega⟩, .inl ⟨_, rfl, _, _, rfl, rfl, (by show (0 : Int) < _; decide), _, _, rfl, rfl, ⟨by decide, by decide⟩, .inl ⟨_, rfl, _, rfl, _, _, rfl, rfl, h0, ?_⟩⟩⟩
          exact fin _
end
end L2.Pf
set_option maxHeartbeats 2000000
namespace L2.Pf
open PySem PySem.Spec PyProof.Rows L2.Ev L2.Tpd L2.Seti L2.Gq L2.Enf L2.Sett L2.Itr L2.Dls L2.Own L2.Ent
section
variable {P : Program} {w : World} {K : PySem.W.Frag} {mg : Str → Option Value} {base : Heap}
theorem seq_nat {d : Int} {n : Nat} (h0 : 0 ≤ d) (h1 : d < (n : Int)) : seqIndex? d n = some d.toNat := by
  have e : ixN n d = some d.toNat := by
    unfold ixN
    rw [if_pos h0, if_pos h1]
  exact (ixN_seq e).1
theorem era_perm {α : Type} : ∀ (l : List α) (i : Nat) (h : i < l.length), (l[i] :: l.eraseIdx i).Perm l
  | [], _, h => absurd h (by simp)
  | _ :: _, 0, _ => List.Perm.refl _
  | a :: l, i + 1, h => by
    have z : i < l.length := by simpa using h
    exact (List.Perm.swap a _ _).trans (List.Perm.cons a (era_perm l i z))
def sp_shuffled (K : PySem.W.Frag) : Sp := fun vs H Q _ => ∃ (p c : Addr) (ns : List Int) (n : Nat) (a : Addr) (xs : List V), vs = [.ref p, .ref a] ∧ Pen H p c ns n ∧ (SqL K H a xs ∨ SqT K H a xs) ∧ xs.length ≤ 1000 ∧ n ≤ 2 ^ 50 ∧
  ∀ ys r H', ys.Perm xs → H r = none → H' r = some (.lst ys) → Pen H' p c ns (n + xs.length) → But p H H' → Q (.ref r) H'
theorem ok_shuffled (T : TX K mg) (B : TB T base) : FnOk P w K mg base CX0 2 T.a_shuffled T.fd_shuffled p_shuffled (sp_shuffled K) := by
  refine T.F_shuffled.ok sc_shuffled (fun vs H Q E h => ?_) (fun cdv A outer s H vs Q E hr h => ?_)
  · obtain ⟨p, c, ns, n, a, xs, rfl, _⟩ := h
    rfl
  · obtain ⟨p, c, ns, n, a, xs, rfl, hp, hS, hl, hn, k⟩ := h
    refine ⟨_, (pss_cons (ps_par (i := 2) (j := 3) (by rfl) sc_shuffled.nd rfl rfl (by decide) rfl rfl (pa_cons (pe_callTy call_list_of (by rfl) T.z_list (by decide +kernel) (pa_cons (pv 1) pa_nil)) (pa_cons (pe_lst pa_nil) pa_nil)) (by rfl))
  (pss_cons (ps_while PassesOwn.never (pt_cmpR (op_neNil hr.units0) (pv 2) (pe_lst pa_nil) (nomark _)) (pss_one (ps_expr (pe_bm PySem.F.plainAttrs_list PySem.F.slot_list_append PySem.F.type_list_append mt_append (pv 3) (pa_cons (pe_bm PySem.F.plainAttrs_list PySem.F.slot_list_pop PySem.F.type_list_pop mt_popAt (pv 2) (pa_cons (pe_call (ok_draw T B) (hr.mono (by decide)) rfl T.g_draw T.F_draw.kp T.b_draw .nil pass0 (pa_cons (pv 0) (pa_cons (pe_callB call_len_seq (by rfl) T.z_len (by decide +kernel) (pa_cons (pv 2) pa_nil)) pa_nil))) pa_nil)) pa_nil)))))
  (pss_one (ps_ret (pv 3))))), ?_⟩
    refine ⟨_, rfl, a, _, rfl, hS, fun r1 hr1 => ⟨Nat.zero_le _, fun r2 hr2 => ⟨_, _, rfl, ?_⟩⟩⟩
    have n12 : r2 ≠ r1 := fun z => by
      rw [z, upd_same] at hr2
      cases hr2
    have h02 : H r2 = none := by
      rw [upd_ne n12] at hr2
      exact hr2
    have pne : ∀ {q : Addr}, H q = none → q ≠ p := fun hq => Ne.symm (ne_of_none hp.there.choose_spec hq)
    have cne : ∀ {q : Addr}, H q = none → q ≠ c := fun hq => Ne.symm (ne_of_none hp.cells hq)
    refine ⟨fun m σ H1 => ∃ (rs fs : List V) (j : Nat), m = rs.length ∧ σ = [some (.ref p), some (.ref a), some (.ref r1), some (.ref r2)] ∧ H1 r1 = some (.lst rs) ∧ H1 r2 = some (.lst fs) ∧ (fs ++ rs).Perm xs ∧ j = n + fs.length ∧ Pen H1 p c ns j ∧ But p H H1, ?_, ?_⟩
    · refine ⟨_, xs, [], n, rfl, rfl, by rw [upd_ne (Ne.symm n12), upd_same], upd_same, List.Perm.refl _, rfl, (hp.new hr1).new hr2, But.own (But.own (But.refl p H) hr1) h02⟩
    · rintro m σ H1 ⟨rs, fs, j, rfl, rfl, e1, e2, hperm, ej, hpn, hb⟩
      refine ⟨_, rfl, Nat.zero_le _, fun q hq => ?_⟩
      have hlen : fs.length + rs.length = xs.length := by
        have z := hperm.length_eq
        rw [List.length_append] at z
        exact z
      have e1' : (upd H1 q (.lst [])) r1 = some (.lst rs) := by rw [upd_ne (ne_of_none e1 hq)]; exact e1
      have e2' : (upd H1 q (.lst [])) r2 = some (.lst fs) := by rw [upd_ne (ne_of_none e2 hq)]; exact e2
      refine ⟨r1, q, _, rfl, rfl, SqL.of e1', SqL.of upd_same, _, rfl, ?_⟩
      have hpn' : Pen (upd H1 q (.lst [])) p c ns j := hpn.new hq
      have hb' : But p H (upd H1 q (.lst [])) := But.new hb hq
      generalize upd H1 q (.lst []) = H2 at e1' e2' hpn' hb'
      cases rs with
      | nil =>
        rw [List.append_nil] at hperm
        refine iteF ⟨_, rfl, ?_⟩
        refine k fs r2 H2 hperm h02 e2' (hpn'.mono (by simp at hlen; omega)) hb'
      | cons y0 rt =>
        refine iteT ⟨_, fun σ' H' z => z, ?_⟩
        refine ⟨_, rfl, .inl ⟨rfl, _, SqL.of e2'⟩, _, rfl, .inl ⟨rfl, _, SqL.of e1'⟩, _, rfl, _, rfl, r1, _, rfl, .inl (SqL.of e1'), ?_⟩
        have hL : (0 : Int) < (((y0 :: rt).length : Nat) : Int) := by simp
        have hlr : (y0 :: rt).length ≤ 1000 := by omega
        refine ⟨p, c, ns, j, _, rfl, hpn', by omega, hL, ?_, fun d H3 d0 d1 hp3 hb3 => ?_⟩
        · exact Nat.lt_of_le_of_lt (by rw [Int.natAbs_natCast]; exact hlr) (show 1000 < 2 ^ 8000 from Nat.lt_of_lt_of_le (by decide : 1000 < 2 ^ 10) (Nat.pow_le_pow_right (by decide) (by decide)))
        have pr1 : r1 ≠ p := pne hr1
        have pr2 : r2 ≠ p := pne h02
        have e13 := hb3 _ _ pr1 e1'
        have e23 := hb3 _ _ pr2 e2'
        have hdl : d.toNat < (y0 :: rt).length := by omega
        refine ⟨r1, _, d, d.toNat, (y0 :: rt)[d.toNat]'hdl, rfl, rfl, e13, by omega, by omega, seq_nat d0 d1, List.getElem?_eq_getElem hdl, ?_⟩
        refine ⟨r2, fs, _, rfl, rfl, by rw [upd_ne n12]; exact e23, small1000 (by omega), ?_⟩
        refine ⟨_, by rw [List.length_eraseIdx_of_lt hdl]; exact Nat.sub_lt (by simp) (by decide), (y0 :: rt).eraseIdx d.toNat, fs ++ [(y0 :: rt)[d.toNat]'hdl], j + 1, rfl, rfl, by rw [upd_ne (Ne.symm n12), upd_same], upd_same, ?_, ?_, ?_, ?_⟩
        · refine List.Perm.trans ?_ hperm
          rw [List.append_assoc]
          exact List.Perm.append_left fs (era_perm _ _ hdl)
        · rw [List.length_append, List.length_singleton, ej]
          omega
        · exact (hp3.upd pr1 (cne hr1)).upd pr2 (cne h02)
        · exact But.own (But.own (hb'.trans hb3) hr1) h02
/-! ### names -/
def NAMES : List Str := ["p", "q", "a", "b", "x", "y", "k", "key", "tables", "ends", "lasts", "somes", "isnot", "hashes", "own", "abcdefghijkl"]
def strV : V → Str
  | .str s => s
  | _ => ""
theorem perm_strs {ys : List V} {zs : List Str} (h : ys.Perm (zs.map V.str)) : ∃ us : List Str, ys = us.map V.str ∧ us.Perm zs := by
  refine ⟨ys.map strV, ?_, ?_⟩
  · rw [List.map_map]
    have e : ∀ y ∈ ys, (V.str ∘ strV) y = y := fun y hy => by
      obtain ⟨s, _, rfl⟩ := List.mem_map.mp (h.mem_iff.mp hy)
      rfl
    rw [List.map_congr_left e, List.map_id']
  · have z := h.map strV
    rw [List.map_map] at z
    have e : (strV ∘ V.str) = id := by
      funext s
      rfl
    rw [e, List.map_id] at z
    exact z
def sp_new_names : Sp := fun vs H Q _ => ∃ (p c : Addr) (ns : List Int) (n m : Nat), vs = [.ref p, .int (m : Int)] ∧ Pen H p c ns n ∧ m ≤ 16 ∧ n ≤ 2 ^ 49 ∧
  ∀ (us : List Str) r H', us.length = m → us.Nodup → (∀ u ∈ us, u ∈ NAMES) → H r = none → H' r = some (.lst (us.map V.str)) → Pen H' p c ns (n + 16) → But p H H' → Q (.ref r) H'
theorem ok_new_names (T : TX K mg) (B : TB T base) : FnOk P w K mg base CX0 3 T.a_new_names T.fd_new_names p_new_names sp_new_names := by
  refine T.F_new_names.ok sc_new_names (fun vs H Q E h => ?_) (fun cdv A outer s H vs Q E hr h => ?_)
  · obtain ⟨p, c, ns, n, m, rfl, _⟩ := h
    rfl
  · obtain ⟨p, c, ns, n, m, rfl, hp, hm, hn, k⟩ := h
    refine ⟨_, (pss_cons (ps_set (i := 2) sc_new_names.nd rfl (Or.inl rfl) (pe_lst (pa_cons pe_str (pa_cons pe_str (pa_cons pe_str (pa_cons pe_str (pa_cons pe_str (pa_cons pe_str (pa_cons pe_str (pa_cons pe_str (pa_cons pe_str (pa_cons pe_str (pa_cons pe_str (pa_cons pe_str (pa_cons pe_str (pa_cons pe_str (pa_cons pe_str pa_nil)))))))))))))))))
  (pss_one (ps_ret (pe_slice sl_list (pe_call (ok_shuffled T B) (hr.mono (by decide)) rfl T.g_shuffled T.F_shuffled.kp T.b_shuffled .nil pass0 (pa_cons (pv 0) (pa_cons (pe_op op_cat (pv 2) (pe_lst (pa_cons pe_str pa_nil))) pa_nil))) po_none (po_some (pv 1)))))), ?_⟩
    refine ⟨by show 15 ≤ sizeLine; decide, fun a ha => ?_⟩
    refine ⟨_, rfl, _, rfl, by show 1 ≤ sizeLine; decide, fun b hb => ?_⟩
    have nab : a ≠ b := fun z => by
      rw [← z, upd_same] at hb
      cases hb
    have hb0 : H b = none := by
      rw [upd_ne (Ne.symm nab)] at hb
      exact hb
    refine ⟨a, b, _, _, rfl, rfl, by rw [upd_ne nab, upd_same], upd_same, by show 16 ≤ sizeLine; decide, fun d hd => ?_⟩
    have hd0 : H d = none := by
      have h1 : d ≠ b := fun z => by
        rw [z, upd_same] at hd
        cases hd
      rw [upd_ne h1] at hd
      have h2 : d ≠ a := fun z => by
        rw [z, upd_same] at hd
        cases hd
      rw [upd_ne h2] at hd
      exact hd
    have hbut := But.own (o := .lst (NAMES.map V.str)) (But.own (o := .lst [.str "abcdefghijkl"]) (But.own (o := .lst ((NAMES.take 15).map V.str)) (But.refl p H) ha) hb0) hd0
    refine ⟨p, c, ns, n, d, NAMES.map V.str, rfl, ((hp.new ha).new hb).new hd, .inl (SqL.of upd_same), by show 16 ≤ 1000; decide, by omega, fun ys r H' hys hr' er hp' hb' => ?_⟩
    obtain ⟨us, rfl, hus⟩ := perm_strs hys
    refine ⟨_, rfl, _, rfl, r, _, rfl, SqL.of er, fun q hq => ?_⟩
    rw [cut_to _ rfl (by omega), ← List.map_take]
    have hlen : us.length = 16 := hus.length_eq
    have hq0 : H q = none := by
      refine But.free (hbut.trans hb') hp'.d.choose_spec.choose_spec.1 hq
    refine k (us.take m) q _ (by rw [List.length_take, hlen]; omega) ?_ (fun u hu => hus.mem_iff.mp (List.mem_of_mem_take hu)) hq0 upd_same ((hp'.mono (by show n + 16 ≤ n + 16; omega)).new hq) (But.own (hbut.trans hb') hq0)
    have nd : us.Nodup := hus.nodup_iff.mpr (by decide +kernel)
    exact nd.sublist (List.take_sublist m us)
end
end L2.Pf
set_option maxHeartbeats 2000000
namespace L2.Pf
open PySem PySem.Spec PyProof.Rows L2.Ev L2.Tpd L2.Seti L2.Gq L2.Enf L2.Sett L2.Itr L2.Dls L2.Own L2.Ent
section
variable {P : Program} {w : World} {K : PySem.W.Frag} {mg : Str → Option Value} {base : Heap}
/-- the law's tables: the i-th is a pair at qs[i] of a name and the list at cs[i] of the columns' names -/
def TabsAt (H : Hp) (qs : List Addr) (tabs : Tabs) : Prop := Paired (fun q (t : Str × List Str) => ∃ c, H q = some (.tup [.str t.1, .ref c]) ∧ H c = some (.lst (t.2.map V.str))) qs tabs
structure DrawnTabs (many : Nat) (tabs : Tabs) : Prop where
  ne : tabs ≠ []
  few : tabs.length ≤ many
  names : ∀ t ∈ tabs, t.1 ∈ NAMES
  nd : (tabs.map (·.1)).Nodup
  cols : ∀ t ∈ tabs, t.2 ≠ [] ∧ t.2.length ≤ 3 ∧ t.2.Nodup ∧ ∀ y ∈ t.2, y ∈ NAMES
theorem ok_small {n : Int} (h : n.natAbs < 2 ^ 64) : n.natAbs < 2 ^ 8000 := Nat.lt_of_lt_of_le h (Nat.pow_le_pow_right (by decide) (by decide))
def sp_linked_tables : Sp := fun vs H Q _ => ∃ (p c : Addr) (ns : List Int) (n : Nat), vs = [.ref p] ∧ Pen H p c ns n ∧ n ≤ 2 ^ 48 ∧
  ∀ (tabs : Tabs) (qs : List Addr) r H', DrawnTabs 4 tabs → H r = none → H' r = some (.lst (qs.map V.ref)) → TabsAt H' qs tabs → (∀ q ∈ qs, H q = none) → Pen H' p c ns (n + 1000) → But p H H' → Q (.ref r) H'
theorem ok_linked_tables (T : TX K mg) (B : TB T base) : FnOk P w K mg base CX0 4 T.a_linked_tables T.fd_linked_tables p_linked_tables sp_linked_tables := by
  refine T.F_linked_tables.ok sc_linked_tables (fun vs H Q E h => ?_) (fun cdv A outer s H vs Q E hr h => ?_)
  · obtain ⟨p, c, ns, n, rfl, _⟩ := h
    rfl
  · obtain ⟨p, c, ns, n, rfl, hp, hn, k⟩ := h
    refine ⟨_, (pss_cons (ps_set (i := 1) sc_linked_tables.nd rfl (Or.inr rfl) (pe_call (ok_new_names T B) (hr.mono (by decide)) rfl T.g_new_names T.F_new_names.kp T.b_new_names .nil pass0 (pa_cons (pv 0) (pa_cons pe_int pa_nil))))
  (pss_one (ps_ret (pe_lc (own := [("_law_k", 2)]) (g := gName 2) (tt := tYes) rfl sc_linked_tables.nd (pi_range1 (by rfl) T.z_range (pa_cons (pe_op op_add pe_int (pe_call (ok_draw T B) (hr.mono (by decide)) rfl T.g_draw T.F_draw.kp T.b_draw .nil pass0 (pa_cons (pv 0) (pa_cons pe_int pa_nil)))) pa_nil)) (blkOk_by (own := [("_law_k", 2)]) (N := n_linked_tables) (sc := defScope s_linked_tables) (by decide +kernel)) (fun _ _ _ _ _ => (pg_name (i := 2) sc_linked_tables.nd rfl (Or.inl rfl))) (fun _ _ _ _ _ => pts_nil) (fun _ _ _ _ _ => (pe_tupS (pa_cons (pe_ix (ix_listK (K := K)) (pv 1) (pv 2) (fun _ _ => rfl)) (pa_cons (pe_call (ok_new_names T B) (hr.mono (by decide)) rfl T.g_new_names T.F_new_names.kp T.b_new_names .nil pass0 (pa_cons (pv 0) (pa_cons (pe_op op_add pe_int (pe_call (ok_draw T B) (hr.mono (by decide)) rfl T.g_draw T.F_draw.kp T.b_draw .nil pass0 (pa_cons (pv 0) (pa_cons pe_int pa_nil)))) pa_nil))) pa_nil)))))))), ?_⟩
    refine ⟨_, rfl, p, c, ns, n, 16, rfl, hp, by decide, by omega, fun us r H1 hlen hnd hmem hr1 e1 hp1 b1 => ?_⟩
    refine ⟨_, rfl, p, c, ns, n + 16, 3, rfl, hp1, by omega, by omega, ok_small (by omega), fun d H2 hd0 hd1 hp2 b2 => ?_⟩
    refine ⟨2, d, rfl, rfl, 2 + d, rfl, by omega, by omega, fun lr hlr => ?_⟩
    generalize hN : (2 + d).toNat = N
    have hN1 : 1 ≤ N ∧ N ≤ 4 := by omega
    have pD : ∀ {H : Hp} {k : Nat}, Pen H p c ns k → ∃ o, H p = some (.dK o) := fun q => let ⟨t, l, e, _⟩ := q.d; ⟨_, e⟩
    have nlp : lr ≠ p := fun z => by
      obtain ⟨o, e⟩ := pD hp2
      rw [z, e] at hlr; cases hlr
    have nlc : lr ≠ c := fun z => by
      have e := hp2.cells
      rw [← z, hlr] at e; cases e
    have b02 := b1.trans b2
    have nlst : ∀ {b : Addr} {xs : List V} {H : Hp} {k : Nat}, Pen H p c ns k → H b = some (.lst xs) → b ≠ p := fun q e2 z => by
      obtain ⟨o, e⟩ := pD q
      rw [z, e] at e2; cases e2
    have e2 : H2 r = some (.lst (us.map V.str)) := b2 _ _ (nlst hp1 e1) e1
    have hlrH : H lr = none := by
      obtain ⟨o, e⟩ := pD hp2
      exact But.free b02 e hlr
    refine lc_growB (n := N) (p := p) hlr nlp (fun i acc Hc => Pen Hc p c ns (n + 17 + 20 * i) ∧ ∃ (tabs : Tabs) (qs : List Addr), acc = qs.map V.ref ∧ tabs.length = i ∧
      Paired (fun q (t : Str × List Str) => ∃ c, Hc q = some (.tup [.str t.1, .ref c]) ∧ Hc c = some (.lst (t.2.map V.str)) ∧ c ≠ lr) qs tabs ∧ (∀ q ∈ qs, H q = none) ∧ tabs.map (·.1) = us.take i ∧ ∀ t ∈ tabs, t.2 ≠ [] ∧ t.2.length ≤ 3 ∧ t.2.Nodup ∧ ∀ y ∈ t.2, y ∈ NAMES) ?_ ?_ ?_ ?_ (small1000 (by omega)) ?_ ?_
    · rintro i acc Hc o ⟨q1, tabs, qs, q2, q3, q4, q5, q6, q7⟩ ⟨u, hu⟩
      refine ⟨q1.upd nlp nlc, tabs, qs, q2, q3, Paired.mapP q4 fun q t ⟨c2, z1, z2, z3⟩ => ⟨c2, ?_, ?_, z3⟩, q5, q6, q7⟩
      · rw [upd_ne (fun z => by rw [z, hu] at z1; cases z1)]; exact z1
      · rw [upd_ne z3]; exact z2
    · intro Hc s
      exact ⟨hp2.same s, [], [], rfl, rfl, .nil, fun q hq => (by cases hq), rfl, fun t ht => (by cases ht)⟩
    · intro i Hc hi _
      exact hi
    · intro Hc _
      exact Nat.le_refl N
    · rintro i acc Hc F G hF hG hi hb hacc ⟨q1, tabs, qs, rfl, q3, q4, q5, q6, q7⟩ x Hc' ⟨rfl, rfl⟩
      have hr2 : Hc' r = some (.lst (us.map V.str)) := hb _ _ (nlst hp2 e2) e2
      have hiu : i < us.length := by omega
      refine ⟨rfl, ?_⟩
      refine ⟨_, rfl, _, rfl, r, _, _, V.str us[i], rfl, rfl, SqL.of hr2, ?_, ?_⟩
      · show atI _ (0 + (i : Int)) = _
        rw [Int.zero_add]
        exact atI_nat (k := i) (by rw [List.getElem?_map, List.getElem?_eq_getElem hiu]; rfl)
      refine ⟨_, rfl, _, rfl, p, c, ns, _, 3, rfl, q1, by omega, by decide, ok_small (by decide), fun d2 H4 hd20 hd21 hp4 b4 => ?_⟩
      refine ⟨1, d2, rfl, rfl, p, c, ns, _, (1 + d2).toNat, by rw [show ((1 + d2).toNat : Int) = 1 + d2 by omega]; rfl, hp4, by omega, by omega, fun us2 r2 H5 hlen2 hnd2 hmem2 hr2n e5 hp5 b5 => ?_⟩
      refine ⟨(by show 2 ≤ sizeLine; decide), fun q H6 hq s6 e6 => ?_⟩
      have b46 : But p Hc' H6 := (b4.trans b5).trans (But.of s6)
      have r2lr : r2 ≠ lr := fun z => by
        have z1 := b4 _ _ (nlst q1 hacc) hacc
        rw [← z, hr2n] at z1; cases z1
      have hqH : H q = none := by
        obtain ⟨o, e⟩ := pD hp5
        exact But.free ((b02.trans hb).trans (b4.trans b5)) e hq
      refine hF _ H6 b46 ⟨(hp5.same s6).mono (by omega), tabs ++ [(us[i], us2)], qs ++ [q], by rw [List.map_append]; rfl, by rw [List.length_append, q3]; rfl, ?_, ?_, ?_, ?_⟩
      · refine paired_snoc (Paired.mapP q4 fun q t ⟨c2, z1, z2, z3⟩ => ⟨c2, b46 _ _ (fun z => ?_) z1, b46 _ _ (nlst q1 z2) z2, z3⟩) ⟨r2, e6, s6 _ _ e5, r2lr⟩
        obtain ⟨o, e⟩ := pD q1
        rw [z, e] at z1; cases z1
      · intro q' hq'
        rcases List.mem_append.mp hq' with h | h
        · exact q5 q' h
        · rw [List.mem_singleton.mp h]; exact hqH
      · rw [List.map_append, q6, List.take_add_one, List.getElem?_eq_getElem hiu]; rfl
      · intro t ht
        rcases List.mem_append.mp ht with h | h
        · exact q7 t h
        · rw [List.mem_singleton.mp h]
          exact ⟨fun z => by have z : us2 = [] := z; rw [z] at hlen2; simp at hlen2; omega, by show us2.length ≤ 3; omega, hnd2, hmem2⟩
    · rintro acc Hc hb hacc ⟨q1, tabs, qs, rfl, q3, q4, q5, q6, q7⟩
      refine k tabs qs lr Hc ⟨fun z => by rw [z] at q3; simp at q3; omega, by omega, fun t ht => ?_, ?_, q7⟩ hlrH hacc (Paired.mapP q4 fun q t ⟨c2, z1, z2, _⟩ => ⟨c2, z1, z2⟩) q5 (q1.mono (by omega)) (b02.trans hb)
      · have z : t.1 ∈ tabs.map (·.1) := List.mem_map.mpr ⟨t, ht, rfl⟩
        rw [q6] at z
        exact hmem _ (List.mem_of_mem_take z)
      · rw [q6]
        exact hnd.sublist (List.take_sublist _ us)
end
end L2.Pf
set_option maxHeartbeats 2000000
namespace L2.Pf
open PySem PySem.Spec PyProof.Rows L2.Ev L2.Tpd L2.Seti L2.Gq L2.Enf L2.Sett L2.Itr L2.Dls L2.Own L2.Ent
section
variable {P : Program} {w : World} {K : PySem.W.Frag} {mg : Str → Option Value} {base : Heap}
def tabLine (t : Str × List Str) : Str := Txt.join " " ("table" :: t.1 :: t.2)
def schemaText (tabs : Tabs) : Str := Txt.join "\n" (tabs.map tabLine)
theorem paired_get {α β : Type} {F : α → β → Prop} {a : List α} {b : List β} {n : Nat} {x : α} {y : β} (h : Paired F a b) : a[n]? = some x → b[n]? = some y → F x y := by
  induction h generalizing n with
  | nil => intro e; cases e
  | cons g t ih =>
    intro e1 e2
    cases n with
    | zero => cases e1; cases e2; exact g
    | succ n => exact ih (by simpa using e1) (by simpa using e2)
theorem names_len {y : Str} (h : y ∈ NAMES) : y.length ≤ 12 := by
  have z : ∀ y ∈ NAMES, y.length ≤ 12 := by decide +kernel
  exact z y h
theorem sum_len {l : List Str} {k : Nat} (h : ∀ x ∈ l, x.length ≤ k) : (l.map (·.length)).sum ≤ l.length * k := by
  induction l with
  | nil => simp
  | cons a r ih =>
    have i := ih fun x hx => h x (List.mem_cons_of_mem _ hx)
    have z := h a List.mem_cons_self
    simp only [List.map_cons, List.sum_cons, List.length_cons]
    rw [Nat.succ_mul]
    omega
theorem join_len (sep : Str) (ys : List Str) : (Txt.join sep ys).length ≤ (ys.map (·.length)).sum + ys.length * sep.length := by
  show (Builtin.Str.glued sep ys).length ≤ _
  rw [StrLaws.glued_eq_join]
  exact StrLaws.join_length_le sep ys
def sp_schema_text : Sp := fun vs H Q _ => ∃ (l : Addr) (qs : List Addr) (tabs : Tabs), vs = [.ref l] ∧ H l = some (.lst (qs.map V.ref)) ∧ TabsAt H qs tabs ∧ DrawnTabs 4 tabs ∧ ∀ H', Same H H' → Q (.str (schemaText tabs)) H'
theorem ok_schema_text (T : TX K mg) (B : TB T base) : FnOk P w K mg base CX0 1 T.a_schema_text T.fd_schema_text p_schema_text sp_schema_text := by
  refine T.F_schema_text.ok sc_schema_text (fun vs H Q E h => ?_) (fun cdv A outer s H vs Q E hr h => ?_)
  · obtain ⟨l, qs, tabs, rfl, _⟩ := h
    rfl
  · obtain ⟨l, qs, tabs, rfl, hl, hT, hD, k⟩ := h
    refine ⟨_, (pss_one (ps_ret (pe_joinK (K := K) rfl pe_str (pe_lc (own := [("_law_name", 1), ("_law_columns_here", 2)]) (g := gTup K 2 (gCons (gName 1) (gCons (gName 2) gNil))) (tt := tYes) rfl sc_schema_text.nd (pi_list (pv 0)) (blkOk_by (own := [("_law_name", 1), ("_law_columns_here", 2)]) (N := n_schema_text) (sc := defScope s_schema_text) (by decide +kernel)) (fun _ _ _ _ _ => (pg_tup rfl (pgs_cons (pg_name (i := 1) sc_schema_text.nd rfl (Or.inl rfl)) (pgs_cons (pg_name (i := 2) sc_schema_text.nd rfl (Or.inl rfl)) pgs_nil)))) (fun _ _ _ _ _ => pts_nil) (fun _ _ _ _ _ => (pe_joinK (K := K) rfl pe_str (pe_op op_catS (pe_lstS (pa_cons pe_str (pa_cons (pv 1) pa_nil))) (pv 2)))))))), ?_⟩
    have hlen : qs.length = tabs.length := Paired.length hT
    have hf := hD.few
    refine ⟨⟨_, rfl⟩, _, rfl, l, rfl, ⟨_, SqL.of hl⟩, fun D hD0 => ?_⟩
    refine lc_grow (n := tabs.length) hD0 (fun i acc H' => acc = ((tabs.take i).map tabLine).map V.str) (fun i acc H' o hp _ => hp) (fun _ _ => rfl)
      (fun i H' hi s1 => ⟨_, V.ref (qs[i]'(by omega)), SqL.of (s1 _ _ hl), by rw [List.getElem?_map, List.getElem?_eq_getElem (by omega)]; rfl⟩) (fun H' s1 => ⟨_, SqL.of (s1 _ _ hl), by rw [List.length_map]; omega⟩) (small1000 (by omega)) (fun i acc H' F G hF hG hi s1 hacc hp v H2 yl => ?_) (fun acc H' s1 ha hp => ?_)
    · obtain ⟨eH, ev⟩ := yl
      subst eH
      have ev := ev _ (SqL.of (s1 _ _ hl))
      rw [List.getElem?_map, List.getElem?_eq_getElem (show i < qs.length by omega)] at ev
      cases ev
      obtain ⟨c, h1, h2⟩ := paired_get hT (List.getElem?_eq_getElem (show i < qs.length by omega)) (List.getElem?_eq_getElem hi)
      refine ⟨_, _, rfl, SqT.of (s1 _ _ h1), rfl, _, _, rfl, _, _, rfl, rfl, rfl, ?_⟩
      have hmem : tabs[i] ∈ tabs := List.getElem_mem hi
      obtain ⟨c1, c2, c3, c4⟩ := hD.cols _ hmem
      have hn := hD.names _ hmem
      refine ⟨⟨_, rfl⟩, _, rfl, (by show 2 ≤ sizeLine; decide), fun a1 Ha n1 sa e1 => ?_⟩
      refine ⟨_, rfl, a1, c, _, _, rfl, rfl, e1, sa _ _ (s1 _ _ h2), Nat.le_of_lt (small1000 (by simp only [List.length_map, List.length_cons, List.length_nil]; omega)), fun b Hb nb sb eb => ?_⟩
      refine ⟨_, b, "table" :: tabs[i].1 :: tabs[i].2, rfl, rfl, .inl (SqL.of eb), ?_, hF _ Hb (sa.trans sb) ?_⟩
      · have z := sum_len (l := tabs[i].2) (k := 12) fun x hx => names_len (c4 x hx)
        have z2 := names_len hn
        simp only [List.map_cons, List.sum_cons, List.length_cons]
        have e5 : ("table" : Str).length = 5 := by decide +kernel
        have e6 : (" " : Str).length = 1 := by decide +kernel
        rw [e5, e6]
        omega
      · rw [hp, List.take_add_one, List.getElem?_eq_getElem hi]
        show _ = ((tabs.take i ++ [tabs[i]]).map tabLine).map V.str
        rw [List.map_append, List.map_append]; rfl
    · rw [List.take_length] at hp
      subst hp
      refine ⟨_, D, tabs.map tabLine, rfl, rfl, .inl (SqL.of ha), ?_, k H' s1⟩
      have z := sum_len (l := tabs.map tabLine) (k := 100) fun x hx => by
        obtain ⟨t, ht, e⟩ := List.mem_map.mp hx
        rw [← e]
        obtain ⟨c1, c2, c3, c4⟩ := hD.cols t ht
        unfold tabLine
        have z := join_len " " ("table" :: t.1 :: t.2)
        have z1 := sum_len (l := t.2) (k := 12) fun x hx => names_len (c4 x hx)
        have z2 := names_len (hD.names t ht)
        simp only [List.map_cons, List.sum_cons, List.length_cons] at z
        have e5 : ("table" : Str).length = 5 := by decide +kernel
        have e6 : (" " : Str).length = 1 := by decide +kernel
        rw [e5, e6] at z
        omega
      have e6 : ("\n" : Str).length = 1 := by decide +kernel
      rw [e6]
      rw [List.length_map] at z ⊢
      omega
end
end L2.Pf
set_option maxHeartbeats 2000000
namespace L2.Pf
open PySem PySem.Spec PyProof.Rows L2.Ev L2.Tpd L2.Seti L2.Gq L2.Enf L2.Sett L2.Itr L2.Dls L2.Own L2.Ent
section
variable {P : Program} {w : World} {K : PySem.W.Frag} {mg : Str → Option Value} {base : Heap}
theorem mem_onces {ls : List Str} {x : Str} : x ∈ onces ls ↔ x ∈ ls := by
  have key : ∀ (ls acc : List Str), x ∈ ls.foldl once acc ↔ x ∈ acc ∨ x ∈ ls := by
    intro ls
    induction ls with
    | nil => intro acc; simp
    | cons a r ih =>
      intro acc
      rw [List.foldl_cons, ih]
      unfold once
      split
      · rename_i h
        rw [List.mem_cons]
        refine ⟨fun z => z.elim .inl fun z => .inr (.inr z), fun z => z.elim .inl fun z => z.elim (fun z => .inl (by rw [z]; exact h)) .inr⟩
      · rw [List.mem_append, List.mem_singleton, List.mem_cons, or_assoc]
  unfold onces
  rw [key]
  exact ⟨fun z => z.elim (fun z => by cases z) id, .inr⟩
def sp_Facts_contains (C CS : Addr) : Sp := fun vs H Q _ => ∃ (f : Addr) (x : Str) (ls : List Str) (tabs : Tabs), vs = [.ref f, .str x] ∧ FactsAt C CS tabs H f ls ∧ Q (.bl (decide (x ∈ ls))) H
theorem ok_Facts_contains (T : TX K mg) (B : TB T base) : FnOk P w K mg base CX0 1 T.a_Facts_contains T.fd_Facts_contains p_Facts_contains (sp_Facts_contains T.C_Facts T.C_Schema) := by
  refine T.F_Facts_contains.ok sc_Facts_contains (fun vs H Q E h => ?_) (fun cdv A outer s H vs Q E hr h => ?_)
  · obtain ⟨f, x, ls, tabs, rfl, _⟩ := h
    rfl
  · obtain ⟨f, x, ls, tabs, rfl, ⟨dx, d, sc, o, kvs, h1, h2, h3, _⟩, k⟩ := h
    refine ⟨_, (pss_one (ps_ret (pe_cmp (pc_din (hu_of hr) (pv 1) (pe_fld (pv 0) rfl))))), ?_⟩
    have hb : (valV kvs (Sum.inr x)).isSome = decide (x ∈ ls) := by
      rw [keys_val h3]
      by_cases hx : x ∈ ls
      · rw [decide_eq_true hx, decide_eq_true (mem_onces.mpr hx)]
      · rw [decide_eq_false hx, decide_eq_false (fun z => hx (mem_onces.mp z))]
    refine ⟨_, rfl, _, rfl, f, T.C_Facts, dx, _, _, rfl, h1, T.cl_Facts, T.n_Facts__facts, rfl, d, _, rfl, .inl ⟨kvs, .inr x, .inr ⟨o, h2⟩, rfl, rfl⟩, ?_⟩
    rw [hb]
    exact k
def sp_Facts_lines (K : PySem.W.Frag) (C CS : Addr) : Sp := fun vs H Q _ => ∃ (f : Addr) (ls : List Str) (tabs : Tabs), vs = [.ref f] ∧ FactsAt C CS tabs H f ls ∧ Lays H (.lst ((onces ls).map V.str)) Q
theorem ok_Facts_lines (T : TX K mg) (B : TB T base) : FnOk P w K mg base CX0 1 T.a_Facts_lines T.fd_Facts_lines p_Facts_lines (sp_Facts_lines K T.C_Facts T.C_Schema) := by
  refine T.F_Facts_lines.ok sc_Facts_lines (fun vs H Q E h => ?_) (fun cdv A outer s H vs Q E hr h => ?_)
  · obtain ⟨f, ls, tabs, rfl, _⟩ := h
    rfl
  · obtain ⟨f, ls, tabs, rfl, ⟨dx, d, sc, o, kvs, h1, h2, h3, _⟩, k⟩ := h
    refine ⟨_, (pss_one (ps_ret (pe_callTy (list_ofD rfl) (by rfl) T.z_list (by decide +kernel) (pa_cons (pe_fld (pv 0) rfl) pa_nil)))), ?_⟩
    have e : (kvs.map fun p => kV p.1) = (onces ls).map V.str := by
      have z := congrArg (List.map kV) h3
      rw [List.map_map, List.map_map] at z
      exact z
    refine ⟨_, rfl, f, T.C_Facts, dx, _, _, rfl, h1, T.cl_Facts, T.n_Facts__facts, rfl, d, kvs, rfl, .inr ⟨o, h2⟩, ?_⟩
    rw [e]
    exact k
theorem ok_Facts_iter (T : TX K mg) (B : TB T base) : KeysOk P w K mg base 1 T.a_Facts_iter T.fd_Facts_iter T.C_Facts "_facts" := by
  refine keys_ok T.F_Facts_iter sc_Facts_iter fun cdv A outer s H E hr => ?_
  refine ⟨_, (pss_one (ps_ret (pe_callB call_iterK (by rfl) T.z_iter (by decide +kernel) (pa_cons (pe_fld (pv 0) rfl) pa_nil)))), ?_⟩
  intro a dx d fs o kvs Q ha hf hd k
  exact ⟨_, rfl, a, T.C_Facts, dx, fs, _, rfl, ha, T.cl_Facts, T.n_Facts__facts, hf, d, o, kvs, rfl, hd, k⟩
end
end L2.Pf
set_option maxHeartbeats 2000000
namespace L2.Pf
open PySem PySem.Spec PyProof.Rows L2.Ev L2.Gq L2.Enf L2.Sett L2.Itr L2.Dls L2.Own L2.Ent
section
variable {P : Program} {w : World} {K : PySem.W.Frag} {mg : Str → Option Value} {base : Heap}
def sp_pick (K : PySem.W.Frag) : Sp := fun vs H Q _ => ∃ (p c : Addr) (ns : List Int) (n : Nat) (a : Addr) (xs : List V), vs = [.ref p, .ref a] ∧ Pen H p c ns n ∧ H a = some (.lst xs) ∧ 1 ≤ xs.length ∧ xs.length ≤ 1000 ∧ n ≤ 2 ^ 50 ∧
  ∀ v H', v ∈ xs → Pen H' p c ns (n + 1) → But p H H' → Q v H'
theorem ok_pick (T : TX K mg) (B : TB T base) : FnOk P w K mg base CX0 2 T.a_pick T.fd_pick p_pick (sp_pick K) := by
  refine T.F_pick.ok sc_pick (fun vs H Q E h => ?_) (fun cdv A outer s H vs Q E hr h => ?_)
  · obtain ⟨p, c, ns, n, a, xs, rfl, _⟩ := h
    rfl
  · obtain ⟨p, c, ns, n, a, xs, rfl, hp, ha, h1, h2, hn, k⟩ := h
    refine ⟨_, (pss_one (ps_ret (pe_ix ix_list (pv 1) (pe_call (ok_draw T B) (hr.mono (by decide)) rfl T.g_draw T.F_draw.kp T.b_draw .nil pass0 (pa_cons (pv 0) (pa_cons (pe_callB call_len_seq (by rfl) T.z_len (by decide +kernel) (pa_cons (pv 1) pa_nil)) pa_nil))) (fun _ _ => rfl)))), ?_⟩
    have nap : a ≠ p := fun z => by
      obtain ⟨t, l, e, _⟩ := hp.d
      rw [z, e] at ha; cases ha
    refine ⟨_, rfl, _, rfl, _, rfl, a, xs, rfl, .inl (SqL.of ha), p, c, ns, n, (xs.length : Int), rfl, hp, by omega, by omega, ok_small (by omega), fun d H2 hd0 hd1 hp2 b2 => ?_⟩
    have hk : d.toNat < xs.length := by omega
    have e : atI xs ((d.toNat : Nat) : Int) = some (xs[d.toNat]) := atI_nat (k := d.toNat) (List.getElem?_eq_getElem hk)
    rw [show ((d.toNat : Nat) : Int) = d by omega] at e
    exact ⟨a, xs, d, _, rfl, rfl, SqL.of (b2 _ _ nap ha), e, k _ H2 (List.getElem_mem hk) hp2 b2⟩
theorem in_strs {x : Str} {ls : List Str} : inV (.str x) (ls.map V.str) = decide (x ∈ ls) := by
  unfold inV
  rw [List.any_map]
  induction ls with
  | nil => rfl
  | cons a r ih =>
    rw [List.any_cons, ih]
    show (decide (a = x) || _) = _
    by_cases h : a = x
    · rw [decide_eq_true h, decide_eq_true (show x ∈ a :: r from h ▸ List.mem_cons_self)]; rfl
    · rw [decide_eq_false h, Bool.false_or]
      by_cases h2 : x ∈ r
      · rw [decide_eq_true h2, decide_eq_true (List.mem_cons_of_mem _ h2)]
      · rw [decide_eq_false h2, decide_eq_false (fun z => (List.mem_cons.mp z).elim (fun z => h z.symm) h2)]
theorem flat_strs {ls : List Str} : (ls.map V.str).all flatV = true := by
  rw [List.all_map, List.all_eq_true]
  intro x _; rfl
def sp_each_once (K : PySem.W.Frag) : Sp := fun vs H Q _ => ∃ (l : Addr) (ls : List Str), vs = [.ref l] ∧ H l = some (.lst (ls.map V.str)) ∧ ls.length ≤ 1000 ∧ ∀ r H', H r = none → Same H H' → H' r = some (.lst ((onces ls).map V.str)) → Q (.ref r) H'
theorem ok_each_once (T : TX K mg) (B : TB T base) : FnOk P w K mg base CX0 1 T.a_each_once T.fd_each_once p_each_once (sp_each_once K) := by
  refine T.F_each_once.ok sc_each_once (fun vs H Q E h => ?_) (fun cdv A outer s H vs Q E hr h => ?_)
  · obtain ⟨l, ls, rfl, _⟩ := h
    rfl
  · obtain ⟨l, ls, rfl, hl, hn, k⟩ := h
    refine ⟨_, (pss_one (ps_ret (pe_lc (own := [("_law_at", 1), ("_law_line", 2)]) (g := gTup K 2 (gCons (gName 1) (gCons (gName 2) gNil))) (tt := _) rfl sc_each_once.nd (pi_enum (by rfl) T.z_enumerate (pa_cons (pv 0) pa_nil)) (blkOk_by (own := [("_law_at", 1), ("_law_line", 2)]) (N := n_each_once) (sc := defScope s_each_once) (by decide +kernel)) (fun _ _ _ _ _ => (pg_tup rfl (pgs_cons (pg_name (i := 1) sc_each_once.nd rfl (Or.inl rfl)) (pgs_cons (pg_name (i := 2) sc_each_once.nd rfl (Or.inl rfl)) pgs_nil)))) (fun _ _ _ _ _ => pts_one (pt_cmpR (op_notInK (K := K)) (pv 2) (pe_slice (sl_listS (K := K)) (pv 0) po_none (po_some (pv 1))) (by rfl))) (fun _ _ _ _ _ => (pv 2))))), ?_⟩
    refine ⟨_, rfl, l, _, rfl, SqL.of hl, fun D hD => ?_⟩
    have hml : (ls.map V.str).length = ls.length := List.length_map ..
    refine lc_grow (n := ls.length) hD (fun i acc H' => acc = (onces (ls.take i)).map V.str) (fun i acc H' o hp _ => hp) (fun _ _ => rfl)
      (fun i H' hi s1 => ⟨_, V.str ls[i], SqL.of (s1 _ _ hl), by rw [List.getElem?_map, List.getElem?_eq_getElem hi]; rfl⟩) (fun H' s1 => ⟨_, SqL.of (s1 _ _ hl), by rw [hml]; exact Nat.le_refl _⟩) (Nat.lt_of_le_of_lt hn (by decide)) (fun i acc H' F G hF hG hi s1 hacc hp v H2 yl => ?_) (fun acc H' s1 ha hp => ?_)
    · obtain ⟨T0, x, rfl, hT0, rfl, hx⟩ := yl
      have hx := hx _ (SqL.of (s1 _ _ hl))
      rw [List.getElem?_map, List.getElem?_eq_getElem hi] at hx
      cases hx
      have sT : Same H' (upd H' T0 (.tup [.int ((i : Nat) : Int), V.str ls[i]])) := Same.new (Same.refl H') hT0
      refine ⟨T0, _, rfl, SqT.of upd_same, rfl, _, _, rfl, _, _, rfl, rfl, rfl, ?_⟩
      generalize upd H' T0 (.tup [.int ((i : Nat) : Int), V.str ls[i]]) = H3 at sT
      refine ⟨_, rfl, _, rfl, _, rfl, _, rfl, l, _, rfl, SqL.of (sT _ _ (s1 _ _ hl)), fun q H4 hq s4 e4 => ?_⟩
      have ec : cutV (ls.map V.str) none (some ((i : Nat) : Int)) = (ls.take i).map V.str := by rw [cut_to _ rfl (by omega), List.map_take]
      rw [ec] at e4
      refine ⟨q, _, rfl, .inl (SqL.of e4), rfl, flat_strs, _, rfl, ?_⟩
      have ho : onces (ls.take (i + 1)) = once (onces (ls.take i)) ls[i] := by
        rw [List.take_add_one, List.getElem?_eq_getElem hi]
        show onces (ls.take i ++ [ls[i]]) = _
        unfold onces
        rw [List.foldl_append]; rfl
      rw [in_strs]
      by_cases hin : ls[i] ∈ ls.take i
      · rw [decide_eq_true hin]
        refine hG _ (sT.trans s4) ?_
        rw [hp, ho]
        unfold once
        rw [if_pos (mem_onces.mpr hin)]
      · rw [decide_eq_false hin]
        refine ⟨_, rfl, hF _ _ (sT.trans s4) ?_⟩
        rw [hp, ho]
        unfold once
        rw [if_neg (fun z => hin (mem_onces.mp z)), List.map_append]; rfl
    · rw [List.take_length] at hp
      subst hp
      exact k D H' hD s1 ha
end
end L2.Pf
set_option maxHeartbeats 2000000
namespace L2.Pf
open PySem PySem.Spec PyProof.Rows L2.Ev L2.Tpd L2.Seti L2.Gq L2.Enf L2.Sett L2.Itr L2.Dls L2.Own L2.Ent
section
variable {P : Program} {w : World} {K : PySem.W.Frag} {mg : Str → Option Value} {base : Heap}
structure GoodTab (t : Str × List Str) : Prop where
  name : t.1 ∈ NAMES
  ne : t.2 ≠ []
  few : t.2.length ≤ 3
  cols : ∀ y ∈ t.2, y ∈ NAMES
def TabAt (H : Hp) (q : Addr) (t : Str × List Str) : Prop := ∃ c, H q = some (.tup [.str t.1, .ref c]) ∧ H c = some (.lst (t.2.map V.str))
def spotOf (n y : Str) : Str := n ++ "." ++ y
def sp_spot : Sp := fun vs H Q _ => ∃ (p c : Addr) (ns : List Int) (n : Nat) (q : Addr) (t : Str × List Str), vs = [.ref p, .ref q] ∧ Pen H p c ns n ∧ TabAt H q t ∧ GoodTab t ∧ n ≤ 2 ^ 49 ∧
  ∀ y H', y ∈ t.2 → Pen H' p c ns (n + 1) → But p H H' → Q (.str (spotOf t.1 y)) H'
theorem ok_spot (T : TX K mg) (B : TB T base) : FnOk P w K mg base CX0 3 T.a_spot T.fd_spot p_spot sp_spot := by
  refine T.F_spot.ok sc_spot (fun vs H Q E h => ?_) (fun cdv A outer s H vs Q E hr h => ?_)
  · obtain ⟨p, c, ns, n, q, t, rfl, _⟩ := h
    rfl
  · obtain ⟨p, c, ns, n, q, t, rfl, hp, ⟨c2, h1, h2⟩, G, hn, k⟩ := h
    refine ⟨_, (pss_one (ps_ret (pe_op op_add_str (pe_op op_add_str (pe_ix ix_tup (pv 1) pe_int (fun _ _ => rfl)) pe_str) (pe_call (ok_pick T B) (hr.mono (by decide)) rfl T.g_pick T.F_pick.kp T.b_pick .nil pass0 (pa_cons (pv 0) (pa_cons (pe_ix ix_tup (pv 1) pe_int (fun _ _ => rfl)) pa_nil)))))), ?_⟩
    have l1 := names_len G.name
    have e1 : ("." : Str).length = 1 := by decide +kernel
    have hlen : t.2.length ≠ 0 := fun z => G.ne (List.length_eq_zero_iff.mp z)
    have hf := G.few
    refine ⟨_, rfl, q, _, 0, _, rfl, rfl, SqT.of h1, atI_nat (k := 0) rfl, _, _, rfl, rfl, Nat.le_of_lt (small1000 (by rw [e1]; omega)), ?_⟩
    refine ⟨_, rfl, _, rfl, q, _, 1, _, rfl, rfl, SqT.of h1, atI_nat (k := 1) rfl, p, c, ns, n, c2, _, rfl, hp, h2, by rw [List.length_map]; omega, by rw [List.length_map]; omega, by omega, fun v H' hv hp' b' => ?_⟩
    obtain ⟨y, hy, rfl⟩ := List.mem_map.mp hv
    have l2 := names_len (G.cols y hy)
    refine ⟨_, y, rfl, rfl, Nat.le_of_lt (small1000 (by rw [Str.length_append, e1]; omega)), k y H' hy hp' b'⟩
end
end L2.Pf
set_option maxHeartbeats 2000000
namespace L2.Pf
open PySem PySem.Spec PyProof.Rows L2.Ev L2.Tpd L2.Seti L2.Gq L2.Enf L2.Sett L2.Itr L2.Dls L2.Own L2.Ent
section
variable {P : Program} {w : World} {K : PySem.W.Frag} {mg : Str → Option Value} {base : Heap}
/-- a row of integers at q -/
def RowAt (H : Hp) (q : Addr) (r : List Int) : Prop := H q = some (.tup (r.map V.int))
/-- a list of rows at l -/
def RowsAt (H : Hp) (l : Addr) (rs : List (List Int)) : Prop := ∃ qs : List Addr, H l = some (.lst (qs.map V.ref)) ∧ Paired (RowAt H) qs rs
theorem kit_int : PySem.W.kitOne K (.type "int") (.type "int") = some true := by
  unfold PySem.W.kitOne
  exact if_pos (by decide +kernel)
theorem kit_tup : PySem.W.kitOne K (.type "tuple") (.type "tuple") = some true := by
  unfold PySem.W.kitOne
  exact if_pos (by decide +kernel)
theorem kit_bool : PySem.W.kitOne K (.type "int") (.type "bool") = some false := by
  unfold PySem.W.kitOne
  rw [if_neg (by decide +kernel)]
  show (if PySem.W.kitMeta "bool" = true then PySem.W.subIn K (.type "int") (.type "bool") else none) = _
  rw [if_pos (by decide +kernel)]
  first | exact rfl | kernel_rfl
theorem width_dec {r : List Int} {n : Nat} : decide (V.int (((r.map V.int).length : Nat) : Int) = V.int (n : Int)) = decide (r.length = n) := by
  rw [List.length_map]
  by_cases h : r.length = n
  · rw [decide_eq_true h, decide_eq_true (by rw [h])]
  · rw [decide_eq_false h, decide_eq_false (fun z => h (by have z2 := V.int.inj z; omega))]
theorem rowsAt_same {H H' : Hp} {l : Addr} {rs : List (List Int)} (h : RowsAt H l rs) (s : Same H H') : RowsAt H' l rs := let ⟨qs, e, p⟩ := h; ⟨qs, s _ _ e, Paired.mapP p fun _ _ z => s _ _ z⟩
abbrev Dat := List (Str × List (List Int))
/-- tables as they are handed in, at d -/
def DatAt (H : Hp) (d : Addr) (dat : Dat) : Prop := ∃ kvs : List (Key × V), H d = some (.dK kvs) ∧ Paired (fun (kv : Key × V) (p : Str × List (List Int)) => kv.1 = .inr p.1 ∧ ∃ l, kv.2 = .ref l ∧ RowsAt H l p.2) kvs dat
def rowsOf (dat : Dat) (x : Str) : Option (List (List Int)) := (dat.find? fun p => decide (p.1 = x)).map (·.2)
def isBad (dat : Dat) (t : Str × List Str) : Bool := match rowsOf dat t.1 with
  | none => true
  | some rs => !rs.all fun r => decide (r.length = t.2.length)
def strangeOf (tabs : Tabs) (dat : Dat) : List Str := (dat.map (·.1)).filter fun x => decide (colsOf tabs x = none)
theorem paired_find {α : Type} {F : Key × V → α → Prop} {key : α → Str} (hk : ∀ kv p, F kv p → kv.1 = .inr (key p)) {kvs : List (Key × V)} {ps : List α} (h : Paired F kvs ps) (x : Str) :
    (valV kvs (.inr x) = none ∧ ps.find? (fun p => decide (key p = x)) = none) ∨ ∃ kv p, valV kvs (.inr x) = some kv.2 ∧ ps.find? (fun p => decide (key p = x)) = some p ∧ F kv p := by
  induction h with
  | nil => exact .inl ⟨rfl, rfl⟩
  | cons g t ih =>
    rename_i kv p r s
    have e := hk _ _ g
    by_cases hx : key p = x
    · refine .inr ⟨kv, p, valV_pos (by rw [e, hx]), ?_, g⟩
      rw [List.find?_cons, decide_eq_true hx]
    · have nx : ¬ kv.1 = Sum.inr x := fun z => hx (by rw [e] at z; exact Sum.inr.inj z)
      rw [valV_neg nx, List.find?_cons, decide_eq_false hx]
      exact ih
def DatF (H : Hp) (kv : Key × V) (p : Str × List (List Int)) : Prop := kv.1 = .inr p.1 ∧ ∃ l, kv.2 = .ref l ∧ RowsAt H l p.2
theorem dat_rows {H : Hp} {kvs : List (Key × V)} {dat : Dat} (h : Paired (DatF H) kvs dat) (x : Str) : (valV kvs (.inr x) = none ∧ rowsOf dat x = none) ∨ ∃ l rs, valV kvs (.inr x) = some (.ref l) ∧ rowsOf dat x = some rs ∧ RowsAt H l rs := by
  rcases paired_find (key := fun p : Str × List (List Int) => p.1) (fun _ _ z => z.1) h x with ⟨a, b⟩ | ⟨kv, p, a, b, _, l, e, hr⟩
  · exact .inl ⟨a, by unfold rowsOf; rw [b]; rfl⟩
  · exact .inr ⟨l, p.2, by rw [a, e], by unfold rowsOf; rw [b]; rfl, hr⟩
theorem cols_rows {H : Hp} {kvs : List (Key × V)} {tabs : Tabs} (h : ColsAt H kvs tabs) (x : Str) : (valV kvs (.inr x) = none ∧ colsOf tabs x = none) ∨ ∃ q cs, valV kvs (.inr x) = some (.ref q) ∧ colsOf tabs x = some cs ∧ TupN H q (cs.map V.str) := by
  rcases paired_find (key := fun p : Str × List Str => p.1) (fun _ _ z => z.1) h x with ⟨a, b⟩ | ⟨kv, p, a, b, _, q, e, hr⟩
  · exact .inl ⟨a, by unfold colsOf; rw [b]; rfl⟩
  · exact .inr ⟨q, p.2, by rw [a, e], by unfold colsOf; rw [b]; rfl, hr⟩
theorem cols_of : ∀ {tabs : Tabs}, (tabs.map (·.1)).Nodup → ∀ {t : Str × List Str}, t ∈ tabs → colsOf tabs t.1 = some t.2
  | [], _, t, h => by cases h
  | u :: r, nd, t, h => by
    rw [List.map_cons, List.nodup_cons] at nd
    unfold colsOf
    by_cases e : u.1 = t.1
    · rw [List.find?_cons, decide_eq_true e]
      rcases List.mem_cons.mp h with h | h
      · rw [h]; rfl
      · exact absurd (List.mem_map.mpr ⟨t, h, e.symm⟩) nd.1
    · rw [List.find?_cons, decide_eq_false e]
      rcases List.mem_cons.mp h with h | h
      · exact absurd (by rw [h]) e
      · exact cols_of nd.2 h
def colVals (rs : List (List Int)) (j : Nat) : List Int := rs.map fun r => r.getD j 0
def rowsD (dat : Dat) (t : Str) : List (List Int) := (rowsOf dat t).getD []
def valsD (tabs : Tabs) (dat : Dat) (p : Place) : List Int := colVals (rowsD dat p.1) (((colsOf tabs p.1).getD []).idxOf (p.2.getD Str.empty))
/-- whether tables keep a fact -/
def keepsB (tabs : Tabs) (dat : Dat) (f : Fact) : Bool :=
  if f.1 = ("single" : Str) then decide ((rowsD dat f.2.1.1).length ≤ 1)
  else if f.1 = ("filled" : Str) then decide (1 ≤ (rowsD dat f.2.1.1).length)
  else if f.1 = ("unique" : Str) then decide ((valsD tabs dat f.2.1).Nodup)
  else if f.1 = ("sorted" : Str) then decide ((valsD tabs dat f.2.1).Pairwise (· ≤ ·))
  else (valsD tabs dat f.2.1).all fun n => decide (n ∈ valsD tabs dat (f.2.2.getD (Str.empty, none)))
/-- a column that is there -/
def IsCol (tabs : Tabs) (p : Place) : Prop := ∃ c cs, p.2 = some c ∧ colsOf tabs p.1 = some cs ∧ c ∈ cs
def IsTab (tabs : Tabs) (p : Place) : Prop := ∃ cs, p.2 = none ∧ colsOf tabs p.1 = some cs
/-- a fact over these tables -/
def FactOk (tabs : Tabs) (f : Fact) : Prop :=
  ((f.1 = ("single" : Str) ∨ f.1 = ("filled" : Str)) ∧ IsTab tabs f.2.1 ∧ f.2.2 = none) ∨ ((f.1 = ("unique" : Str) ∨ f.1 = ("sorted" : Str)) ∧ IsCol tabs f.2.1 ∧ f.2.2 = none) ∨
  (f.1 = ("found" : Str) ∧ IsCol tabs f.2.1 ∧ ∃ g, f.2.2 = some g ∧ IsCol tabs g)
/-- right tables -/
def DatOk (tabs : Tabs) (dat : Dat) : Prop := ∀ t ∈ tabs, ∃ rs, rowsOf dat t.1 = some rs ∧ (∀ r ∈ rs, r.length = t.2.length) ∧ rs.length < 64
theorem DatOk.col {tabs : Tabs} {dat : Dat} (h : DatOk tabs dat) {t : Str} {cs : List Str} (e : colsOf tabs t = some cs) : ∃ rs, rowsOf dat t = some rs ∧ (∀ r ∈ rs, r.length = cs.length) ∧ rs.length < 64 := by
  unfold colsOf at e
  obtain ⟨p, hp, e2⟩ := Option.map_eq_some_iff.mp e
  have hm := List.mem_of_find?_eq_some hp
  have ht : p.1 = t := by
    have z := List.find?_some hp
    simpa using z
  obtain ⟨rs, a, b, c⟩ := h p hm
  rw [ht] at a
  rw [e2] at b
  exact ⟨rs, a, b, c⟩
theorem mem_inV {x : Str} : ∀ {ys : List Str}, inV (.str x) (ys.map V.str) = true ↔ x ∈ ys
  | [] => ⟨fun z => (by have z2 : false = true := z; cases z2), fun z => absurd z List.not_mem_nil⟩
  | y :: r => by
    have e : inV (.str x) ((y :: r).map V.str) = (eqV (.str y) (.str x) || inV (.str x) (r.map V.str)) := rfl
    rw [e, Bool.or_eq_true, mem_inV (ys := r), eqV_str, decide_eq_true_iff, List.mem_cons]
    exact ⟨fun z => z.imp Eq.symm id, fun z => z.imp Eq.symm id⟩
theorem readTable_tab {tabs : Tabs} {x : Str} {p : Place} (h : readTable tabs x = some p) : IsTab tabs p := by
  unfold readTable at h
  split at h
  · rename_i c
    cases h
    rw [cols_in] at c
    obtain ⟨cs, e⟩ := Option.isSome_iff_exists.mp c
    exact ⟨cs, rfl, e⟩
  · cases h
theorem readColumn_col {tabs : Tabs} {x : Str} {p : Place} (h : readColumn tabs x = some p) : IsCol tabs p := by
  unfold readColumn at h
  split at h
  · rename_i cs e
    split at h
    · rename_i c
      cases h
      exact ⟨_, cs, rfl, e, mem_inV.mp c⟩
    · cases h
  · cases h
theorem readWords_ok {tabs : Tabs} {ws : List Str} {f : Fact} (h : readWords tabs ws = some f) : FactOk tabs f := by
  have two : ∀ {a b x : Str} {l : List V}, l = [.str a, .str b] → inV (.str x) l = true → x = a ∨ x = b := fun {a b x l} e h => by
    subst e
    have z := mem_inV (x := x) (ys := [a, b]) |>.mp h
    simpa using z
  unfold readWords at h
  split at h
  · rename_i c
    obtain ⟨p, e, rfl⟩ := Option.map_eq_some_iff.mp h
    exact .inl ⟨two rfl c.2, readTable_tab e, rfl⟩
  · split at h
    · rename_i c
      obtain ⟨p, e, rfl⟩ := Option.map_eq_some_iff.mp h
      exact .inr (.inl ⟨two rfl c.2, readColumn_col e, rfl⟩)
    · split at h
      · rename_i c
        obtain ⟨g, e1, e⟩ := Option.bind_eq_some_iff.mp h
        obtain ⟨p, e2, rfl⟩ := Option.map_eq_some_iff.mp e
        exact .inr (.inr ⟨c.2.1, readColumn_col e2, g, rfl, readColumn_col e1⟩)
      · cases h
/-- whether tables keep the fact of a line -/
def lineKept (tabs : Tabs) (dat : Dat) (x : Str) : Bool := match readWords tabs (Txt.split x " ") with
  | some f => keepsB tabs dat f
  | none => true
def textV : Option Str → V
  | none => .non
  | some x => .str x
def brokenOf (tabs : Tabs) (dat : Dat) (ls : List Str) : Option Str := (onces ls).find? fun x => !lineKept tabs dat x
/-- what check says: the table that is told, or nothing -/
def Told (tabs : Tabs) (dat : Dat) (x : Str) : Prop := (∃ t, tabs.find? (isBad dat) = some t ∧ x = t.1) ∨ (tabs.find? (isBad dat) = none ∧ ∃ ys, ys.Perm (strangeOf tabs dat) ∧ sortedS ys = true ∧ ys.head? = some x)
theorem datOk_of {tabs : Tabs} {dat : Dat} (h : tabs.find? (isBad dat) = none) (hs : ∀ p ∈ dat, p.2.length < 64) : DatOk tabs dat := fun t ht => by
  have z := List.find?_eq_none.mp h t ht
  unfold isBad at z
  cases e : rowsOf dat t.1 with
  | none => rw [e] at z; exact absurd rfl z
  | some rs =>
    rw [e] at z
    have z2 : ∀ r ∈ rs, r.length = t.2.length := by simpa using z
    refine ⟨rs, rfl, z2, ?_⟩
    unfold rowsOf at e
    obtain ⟨p, hp, rfl⟩ := Option.map_eq_some_iff.mp e
    exact hs p (List.mem_of_find?_eq_some hp)
theorem DatAt.same {H H' : Hp} {d : Addr} {dat : Dat} (h : DatAt H d dat) (s : Same H H') : DatAt H' d dat := by
  obtain ⟨kvs, d1, d2⟩ := h
  have d2 : Paired (DatF H) kvs dat := d2
  exact ⟨kvs, s _ _ d1, Paired.mapP d2 fun kv p ⟨z1, l, z2, hr⟩ => ⟨z1, l, z2, rowsAt_same hr s⟩⟩
inductive FactOf (tabs : Tabs) : Str → Prop
  | single {t : Str × List Str} : t ∈ tabs → FactOf tabs (("single " : Str) ++ t.1)
  | filled {t : Str × List Str} : t ∈ tabs → FactOf tabs (("filled " : Str) ++ t.1)
  | unique {t : Str × List Str} {y : Str} : t ∈ tabs → y ∈ t.2 → FactOf tabs (("unique " : Str) ++ spotOf t.1 y)
  | sorted {t : Str × List Str} {y : Str} : t ∈ tabs → y ∈ t.2 → FactOf tabs (("sorted " : Str) ++ spotOf t.1 y)
  | found {i j : Nat} {t u : Str × List Str} {y z : Str} : i < j → tabs[i]? = some t → tabs[j]? = some u → y ∈ t.2 → z ∈ u.2 → FactOf tabs (("found " : Str) ++ spotOf t.1 y ++ " in " ++ spotOf u.1 z)
theorem perm_paired {α : Type} {F : Addr → α → Prop} {ys xs : List V} (h : ys.Perm xs) : ∀ (qs : List Addr) (ts : List α), xs = qs.map V.ref → Paired F qs ts → ∃ qs' ts', ys = qs'.map V.ref ∧ ts'.Perm ts ∧ Paired F qs' ts' := by
  induction h with
  | nil =>
    intro qs ts e p
    cases p with
    | nil => exact ⟨[], [], rfl, .refl _, .nil⟩
    | cons g t => cases e
  | cons x h ih =>
    intro qs ts e p
    cases p with
    | nil => cases e
    | cons g t =>
      rename_i q b l r
      rw [List.map_cons] at e
      injection e with e1 e2
      obtain ⟨qs', ts', h1, h2, h3⟩ := ih l r e2 t
      exact ⟨q :: qs', b :: ts', by rw [e1, h1]; rfl, h2.cons b, .cons g h3⟩
  | swap x y l =>
    intro qs ts e p
    cases p with
    | nil => cases e
    | cons g t =>
      rename_i q b l1 r1
      cases t with
      | nil =>
        rw [List.map_cons] at e
        injection e with e1 e2
        cases e2
      | cons g2 t2 =>
        rename_i q2 b2 l2 r2
        rw [List.map_cons, List.map_cons] at e
        injection e with e1 e2
        injection e2 with e2 e3
        exact ⟨q2 :: q :: l2, b2 :: b :: r2, by rw [e1, e2, e3]; rfl, .swap .., .cons g2 (.cons g t2)⟩
  | trans h1 h2 i1 i2 =>
    intro qs ts e p
    obtain ⟨qs', ts', h3, h4, h5⟩ := i2 qs ts e p
    obtain ⟨qs2, ts2, h6, h7, h8⟩ := i1 qs' ts' h3 h5
    exact ⟨qs2, ts2, h6, h7.trans h4, h8⟩
end
end L2.Pf
set_option maxHeartbeats 2000000
namespace L2.Pf
open PySem PySem.Spec PyProof.Rows L2.Ev L2.Tpd L2.Seti L2.Gq L2.Enf L2.Sett L2.Itr L2.Dls L2.Own L2.Ent
section
variable {P : Program} {w : World} {K : PySem.W.Frag} {mg : Str → Option Value} {base : Heap}
theorem mt_indexK {X : Cx} (hK : X.K = K := by rfl) : MtR X "list.index" (rIndex K) := by
  subst hK
  exact mt_index
theorem pe_bmK {X : Cx} {name : Str} {T id : String} {r : V → List V → Hp → VK → Prop} {o e : Expr} {es : List Expr} {to : TE} {t : TA} {apos cpos : Pos} (hK : X.K = K) (pa : PlainAttrs T) (slot : Slot T name id) (hty : typeOf (.builtin id) = pure (.type "method_descriptor")) (hm : MtR X id r) (ho : PE X o to) (ha : PA X (e :: es) t)
    (hbase : attributeBase o name X.env (eval o X.env) = eval o X.env := by rfl)
    (hfew : ((backTo cpos (starEach (e :: es) X.env)).all (fun x => !x.1) && (backToKw cpos (keywordEach [] X.env)).all (fun x => x.1.isSome)
      && decide ((e :: es).length + ([] : List Keyword).length + (if ([] : List Keyword).isEmpty then 0 else 1) < 30)) = true := by rfl)
    (hline : (apos.endLine == cpos.line) = true := by rfl) (hs : starEach (e :: es) X.env = (false, eval e X.env) :: starEach es X.env := by rfl) (hplain : (backTo cpos (starEach es X.env)).any (·.1) = false := by rfl) :
    PE X (.Call (.Attribute o name apos) (e :: es) [] cpos) (tBM K T r to t) := by
  subst hK
  exact pe_bm pa slot hty hm ho ha hbase hfew hline hs hplain
/-- the law's plain dict of its tables -/
def PlainAt (H : Hp) (a : Addr) (tabs : Tabs) : Prop := ∃ (l i b : Addr) (qs : List Addr), H a = some (.dK [(.inr "tables", .ref l), (.inr "indexes", .ref i), (.inr "body", .ref b)]) ∧ H l = some (.lst (qs.map V.ref)) ∧ TabsAt H qs tabs
theorem PlainAt.keep {H H' : Hp} {a : Addr} {tabs : Tabs} (h : PlainAt H a tabs) (s : Same H H') : PlainAt H' a tabs :=
  let ⟨l, i, b, qs, h1, h2, h3⟩ := h
  ⟨l, i, b, qs, s _ _ h1, s _ _ h2, Paired.mapP h3 fun q t ⟨c, e1, e2⟩ => ⟨c, s _ _ e1, s _ _ e2⟩⟩
def sp_law_columns : Sp := fun vs H Q _ => ∃ (a : Addr) (x : Str) (tabs : Tabs) (cs : List Str), vs = [.ref a, .str x] ∧ PlainAt H a tabs ∧ tabs.length ≤ 4 ∧ colsOf tabs x = some cs ∧ ∀ H' c, Same H H' → H' c = some (.lst (cs.map V.str)) → Q (.ref c) H'
theorem ok_columns (T : TX K mg) (B : TB T base) : FnOk P w K mg base CX0 1 T.a_columns T.fd_columns p_columns sp_law_columns := by
  refine T.F_columns.ok sc_columns (fun vs H Q E h => ?_) (fun cdv A outer s H vs Q E hr h => ?_)
  · obtain ⟨a, x, tabs, cs, rfl, _⟩ := h
    rfl
  · obtain ⟨a, x, tabs, cs, rfl, hP, h4, hc, k⟩ := h
    refine ⟨_, (pss_one (ps_ret (pe_ix ix_list (pe_lc (own := [("_law_name", 2), ("_law_columns_here", 3)]) (g := gTup K 2 (gCons (gName 2) (gCons (gName 3) gNil))) (tt := _) rfl sc_columns.nd (pi_list (pe_dget (hu_of hr) (pv 0) pe_str (fun _ _ => rfl))) (blkOk_by (own := [("_law_name", 2), ("_law_columns_here", 3)]) (N := n_columns) (sc := defScope s_columns) (by decide +kernel)) (fun _ _ _ _ _ => (pg_tup rfl (pgs_cons (pg_name (i := 2) sc_columns.nd rfl (Or.inl rfl)) (pgs_cons (pg_name (i := 3) sc_columns.nd rfl (Or.inl rfl)) pgs_nil)))) (fun _ _ _ _ _ => pts_one (pt_cmpR op_eq (pv 2) (pv 1) (nomark _))) (fun _ _ _ _ _ => (pv 3))) pe_int (fun _ _ => rfl)))), ?_⟩
    obtain ⟨l, ii, b, qs, h1, h2, h3⟩ := hP
    have hlen : qs.length = tabs.length := Paired.length h3
    refine ⟨_, rfl, a, .ref l, rfl, .inl ⟨_, .inr "tables", .inl h1, rfl, rfl⟩, l, rfl, ⟨_, SqL.of h2⟩, fun D hD0 => ?_⟩
    refine lc_grow (n := tabs.length) hD0 (fun i acc H' => (acc = [] ∧ ∀ t ∈ tabs.take i, t.1 ≠ x) ∨ ∃ c r, acc = .ref c :: r ∧ H c = some (.lst (cs.map V.str))) (fun i acc H' o hp _ => hp) (fun _ _ => .inl ⟨rfl, fun t ht => by cases ht⟩)
      (fun i H' hi s1 => ⟨_, V.ref (qs[i]'(by omega)), SqL.of (s1 _ _ h2), by rw [List.getElem?_map, List.getElem?_eq_getElem (by omega)]; rfl⟩) (fun H' s1 => ⟨_, SqL.of (s1 _ _ h2), by rw [List.length_map]; omega⟩) (small1000 (by omega)) (fun i acc H' F G hF hG hi s1 hacc hp v H2 yl => ?_) (fun acc H' s1 ha hp => ?_)
    · obtain ⟨eH, ev⟩ := yl
      subst eH
      have ev := ev _ (SqL.of (s1 _ _ h2))
      rw [List.getElem?_map, List.getElem?_eq_getElem (show i < qs.length by omega)] at ev
      cases ev
      obtain ⟨c, g1, g2⟩ := paired_get h3 (List.getElem?_eq_getElem (show i < qs.length by omega)) (List.getElem?_eq_getElem hi)
      refine ⟨_, _, rfl, SqT.of (s1 _ _ g1), rfl, _, _, rfl, _, _, rfl, rfl, rfl, ?_⟩
      have eqs : ∀ (x y : Str), decide (V.str x = V.str y) = decide (x = y) := fun x y => by
        by_cases h : x = y
        · rw [decide_eq_true h, decide_eq_true (by rw [h])]
        · rw [decide_eq_false h, decide_eq_false (fun z => h (by cases z; rfl))]
      refine ⟨_, rfl, _, rfl, rfl, _, rfl, ?_⟩
      rw [eqs]
      have gc : H c = some (.lst (tabs[i].2.map V.str)) := g2
      by_cases e : tabs[i].1 = x
      · rw [decide_eq_true e]
        refine iteT ⟨_, rfl, hF _ _ (Same.refl _) ?_⟩
        rcases hp with ⟨rfl, hn⟩ | ⟨c0, r, rfl, h0⟩
        · refine .inr ⟨c, [], rfl, ?_⟩
          have hf : tabs.find? (fun t => decide (t.1 = x)) = some tabs[i] := by
            rw [List.find?_eq_some_iff_getElem]
            refine ⟨decide_eq_true e, i, hi, rfl, fun j hj => ?_⟩
            have z := hn tabs[j] (List.mem_take_iff_getElem.mpr ⟨j, by omega, rfl⟩)
            rw [decide_eq_false z]; rfl
          unfold colsOf at hc
          rw [hf] at hc
          cases hc
          exact gc
        · exact .inr ⟨c0, r ++ [.ref c], rfl, h0⟩
      · rw [decide_eq_false e]
        refine iteF (hG _ (Same.refl _) ?_)
        rcases hp with ⟨rfl, hn⟩ | h
        · refine .inl ⟨rfl, fun t ht => ?_⟩
          rw [List.take_add_one, List.getElem?_eq_getElem hi] at ht
          rcases List.mem_append.mp ht with h | h
          · exact hn t h
          · rw [Option.toList_some, List.mem_singleton] at h
            rw [h]; exact e
        · exact .inr h
    · rw [List.take_length] at hp
      rcases hp with ⟨rfl, hn⟩ | ⟨c, r, rfl, h0⟩
      · exfalso
        unfold colsOf at hc
        obtain ⟨p, hp, _⟩ := Option.map_eq_some_iff.mp hc
        have z := List.find?_some hp
        exact hn p (List.mem_of_find?_eq_some hp) (of_decide_eq_true z)
      · exact ⟨D, _, 0, _, rfl, rfl, SqL.of ha, atI_nat (k := 0) rfl, k _ c s1 (s1 _ _ h0)⟩
end
end L2.Pf
set_option maxHeartbeats 4000000
namespace L2.Pf
open PySem PySem.Spec PyProof.Rows L2.Ev L2.Tpd L2.Seti L2.Gq L2.Enf L2.Sett L2.Itr L2.Dls L2.Own L2.Ent
theorem tl_0 : TL.tl ("" : Str) = [] := by decide +kernel
theorem tl_1 : TL.tl ("unique" : Str) = [117, 110, 105, 113, 117, 101] := by decide +kernel
theorem tl_2 : TL.tl ("." : Str) = [46] := by decide +kernel
theorem tl_3 : TL.tl ("single" : Str) = [115, 105, 110, 103, 108, 101] := by decide +kernel
theorem tl_4 : TL.tl ("Unique" : Str) = [85, 110, 105, 113, 117, 101] := by decide +kernel
theorem tl_5 : TL.tl ("zzz" : Str) = [122, 122, 122] := by decide +kernel
theorem tl_6 : TL.tl ("sorted" : Str) = [115, 111, 114, 116, 101, 100] := by decide +kernel
theorem tl_7 : TL.tl ("nowhere" : Str) = [110, 111, 119, 104, 101, 114, 101] := by decide +kernel
theorem tl_8 : TL.tl ("filled" : Str) = [102, 105, 108, 108, 101, 100] := by decide +kernel
theorem tl_9 : TL.tl ("empty" : Str) = [101, 109, 112, 116, 121] := by decide +kernel
theorem tl_10 : TL.tl ("found" : Str) = [102, 111, 117, 110, 100] := by decide +kernel
theorem tl_11 : TL.tl ("in" : Str) = [105, 110] := by decide +kernel
theorem tl_12 : TL.tl ("of" : Str) = [111, 102] := by decide +kernel
theorem tl_13 : TL.tl ("x" : Str) = [120] := by decide +kernel
theorem tl_14 : TL.tl ("not" : Str) = [110, 111, 116] := by decide +kernel
theorem tl_15 : TL.tl (" " : Str) = [32] := by decide +kernel
theorem tl_16 : TL.tl ("unique " : Str) = [117, 110, 105, 113, 117, 101, 32] := by decide +kernel
theorem tl_17 : TL.tl ("unique ." : Str) = [117, 110, 105, 113, 117, 101, 32, 46] := by decide +kernel
theorem tl_18 : TL.tl ("single " : Str) = [115, 105, 110, 103, 108, 101, 32] := by decide +kernel
theorem tl_19 : TL.tl (" unique " : Str) = [32, 117, 110, 105, 113, 117, 101, 32] := by decide +kernel
theorem tl_20 : TL.tl ("unique  " : Str) = [117, 110, 105, 113, 117, 101, 32, 32] := by decide +kernel
theorem tl_21 : TL.tl ("Unique " : Str) = [85, 110, 105, 113, 117, 101, 32] := by decide +kernel
theorem tl_22 : TL.tl (".zzz" : Str) = [46, 122, 122, 122] := by decide +kernel
theorem tl_23 : TL.tl ("sorted " : Str) = [115, 111, 114, 116, 101, 100, 32] := by decide +kernel
theorem tl_24 : TL.tl ("sorted nowhere." : Str) = [115, 111, 114, 116, 101, 100, 32, 110, 111, 119, 104, 101, 114, 101, 46] := by decide +kernel
theorem tl_25 : TL.tl ("single nowhere" : Str) = [115, 105, 110, 103, 108, 101, 32, 110, 111, 119, 104, 101, 114, 101] := by decide +kernel
theorem tl_26 : TL.tl ("filled nowhere" : Str) = [102, 105, 108, 108, 101, 100, 32, 110, 111, 119, 104, 101, 114, 101] := by decide +kernel
theorem tl_27 : TL.tl ("filled " : Str) = [102, 105, 108, 108, 101, 100, 32] := by decide +kernel
theorem tl_28 : TL.tl ("empty " : Str) = [101, 109, 112, 116, 121, 32] := by decide +kernel
theorem tl_29 : TL.tl ("found " : Str) = [102, 111, 117, 110, 100, 32] := by decide +kernel
theorem tl_30 : TL.tl (" in" : Str) = [32, 105, 110] := by decide +kernel
theorem tl_31 : TL.tl (" of " : Str) = [32, 111, 102, 32] := by decide +kernel
theorem tl_32 : TL.tl (" in " : Str) = [32, 105, 110, 32] := by decide +kernel
theorem tl_33 : TL.tl ("in " : Str) = [105, 110, 32] := by decide +kernel
theorem tl_34 : TL.tl (" in nowhere.zzz" : Str) = [32, 105, 110, 32, 110, 111, 119, 104, 101, 114, 101, 46, 122, 122, 122] := by decide +kernel
theorem tl_35 : TL.tl ("  in " : Str) = [32, 32, 105, 110, 32] := by decide +kernel
theorem tl_36 : TL.tl (" in  " : Str) = [32, 105, 110, 32, 32] := by decide +kernel
theorem tl_37 : TL.tl ("found nowhere." : Str) = [102, 111, 117, 110, 100, 32, 110, 111, 119, 104, 101, 114, 101, 46] := by decide +kernel
theorem tl_38 : TL.tl (".zzz in " : Str) = [46, 122, 122, 122, 32, 105, 110, 32] := by decide +kernel
theorem tl_39 : TL.tl ("not single " : Str) = [110, 111, 116, 32, 115, 105, 110, 103, 108, 101, 32] := by decide +kernel
theorem blank_tl : TL.tl (" " : Str) = 32 :: [] := by decide +kernel
theorem dot_tl : TL.tl ("." : Str) = 46 :: [] := by decide +kernel
theorem words_are {x : Str} {ws : List Str} (h : TL.tl x = TL.joinL [32] (ws.map TL.tl)) (hne : ws ≠ []) (hp : ∀ p ∈ ws, 32 ∉ TL.tl p) : Txt.split x " " = ws := by
  have e : x = Txt.join " " ws := by
    apply TL.ext_tl
    rw [TL.join_eq, TL.tl_join, h, blank_tl]
  rw [e]
  exact TL.split_join blank_tl (by decide +kernel) hne hp
theorem no_blank {x : Str} (h : x ∈ NAMES) : 32 ∉ TL.tl x := by
  have z : ∀ x ∈ NAMES, 32 ∉ TL.tl x := by decide +kernel
  exact z x h
theorem no_dot {x : Str} (h : x ∈ NAMES) : 46 ∉ TL.tl x := by
  have z : ∀ x ∈ NAMES, 46 ∉ TL.tl x := by decide +kernel
  exact z x h
theorem no_line {x : Str} (h : x ∈ NAMES) : 10 ∉ TL.tl x := by
  have z : ∀ x ∈ NAMES, 10 ∉ TL.tl x := by decide +kernel
  exact z x h
theorem up_blank {x : Str} (h : x ∈ NAMES) : 32 ∉ TL.tl (Txt.upper x) := by
  have z : ∀ x ∈ NAMES, 32 ∉ TL.tl (Txt.upper x) := by decide +kernel
  exact z x h
theorem up_dot {x : Str} (h : x ∈ NAMES) : 46 ∉ TL.tl (Txt.upper x) := by
  have z : ∀ x ∈ NAMES, 46 ∉ TL.tl (Txt.upper x) := by decide +kernel
  exact z x h
theorem nx : ∀ x ∈ NAMES, (x ++ ("x" : Str)) ∉ NAMES := by decide +kernel
theorem nup : ∀ x ∈ NAMES, Txt.upper x ∉ NAMES := by decide +kernel
theorem dot_no {x : Str} (h : 46 ∈ TL.tl x) : x ∉ NAMES := fun z => no_dot z h
theorem empty_no : Str.empty ∉ NAMES := by decide +kernel
theorem rw_len {tabs : Tabs} {ws : List Str} (h2 : ws.length ≠ 2) (h4 : ws.length ≠ 4) : readWords tabs ws = none := by
  unfold readWords
  rw [if_neg (fun z => h2 z.1), if_neg (fun z => h2 z.1), if_neg (fun z => h4 z.1)]
theorem rw2t {tabs : Tabs} {a b : Str} (h : inV (.str a) k_OF_TABLES = true) (hb : readTable tabs b = none) : readWords tabs [a, b] = none := by
  unfold readWords
  rw [if_pos ⟨rfl, h⟩]
  show (readTable tabs b).map _ = none
  rw [hb]; rfl
theorem rw2c {tabs : Tabs} {a b : Str} (h : inV (.str a) k_OF_TABLES = false) (h2 : inV (.str a) k_OF_COLUMNS = true) (hb : readColumn tabs b = none) : readWords tabs [a, b] = none := by
  unfold readWords
  rw [if_neg (fun z => by have z2 : inV (.str a) k_OF_TABLES = true := z.2; rw [h] at z2; cases z2), if_pos ⟨rfl, h2⟩]
  show (readColumn tabs b).map _ = none
  rw [hb]; rfl
theorem rw2x {tabs : Tabs} {a b : Str} (h : inV (.str a) k_OF_TABLES = false) (h2 : inV (.str a) k_OF_COLUMNS = false) : readWords tabs [a, b] = none := by
  unfold readWords
  rw [if_neg (fun z => by have z2 : inV (.str a) k_OF_TABLES = true := z.2; rw [h] at z2; cases z2), if_neg (fun z => by have z2 : inV (.str a) k_OF_COLUMNS = true := z.2; rw [h2] at z2; cases z2), if_neg (fun z => by have z2 := z.1; simp at z2)]
theorem rw4x {tabs : Tabs} {a b c d : Str} (h : a ≠ ("found" : Str) ∨ c ≠ ("in" : Str)) : readWords tabs [a, b, c, d] = none := by
  unfold readWords
  rw [if_neg (fun z => by have z2 := z.1; simp at z2), if_neg (fun z => by have z2 := z.1; simp at z2), if_neg (fun z => h.elim (fun g => g z.2.1) (fun g => g z.2.2))]
theorem rw4e {tabs : Tabs} {a b : Str} : readWords tabs [("found" : Str), a, ("in" : Str), b] = (readColumn tabs b).bind fun g => (readColumn tabs a).map fun p => (("found" : Str), p, some g) := by
  unfold readWords
  rw [if_neg (fun z => by have z2 := z.1; simp at z2), if_neg (fun z => by have z2 := z.1; simp at z2), if_pos ⟨rfl, rfl, rfl⟩]
  rfl
theorem rw4 {tabs : Tabs} {a b : Str} (h : readColumn tabs a = none ∨ readColumn tabs b = none) : readWords tabs [("found" : Str), a, ("in" : Str), b] = none := by
  rw [rw4e]
  rcases h with h | h
  · rw [h]
    cases readColumn tabs b <;> rfl
  · rw [h]; rfl
theorem table_none {tabs : Tabs} {x : Str} (G : ∀ t ∈ tabs, GoodTab t) (h : x ∉ NAMES) : readTable tabs x = none := by
  unfold readTable
  refine if_neg fun z => h ?_
  have z2 : inV (.str x) ((tabs.map (·.1)).map V.str) = true := by rw [List.map_map]; exact z
  obtain ⟨t, ht, e⟩ := List.mem_map.mp (mem_inV.mp z2)
  rw [← e]; exact (G t ht).name
theorem cols_mem {tabs : Tabs} {x : Str} {cs : List Str} (h : colsOf tabs x = some cs) : (x, cs) ∈ tabs := by
  have z := cols_find h
  exact List.mem_of_find?_eq_some z
theorem col_part {tabs : Tabs} {x : Str} (G : ∀ t ∈ tabs, GoodTab t) (h : (Txt.partition x ".").1 ∉ NAMES ∨ (Txt.partition x ".").2.2 ∉ NAMES) : readColumn tabs x = none := by
  unfold readColumn
  cases e : colsOf tabs (Txt.partition x ".").1 with
  | none => rfl
  | some cs =>
    have hm := cols_mem e
    have g := G _ hm
    refine if_neg fun z => ?_
    rcases h with h | h
    · exact h g.name
    · exact h (g.cols _ (mem_inV.mp z))
theorem col_nodot {tabs : Tabs} {x : Str} (G : ∀ t ∈ tabs, GoodTab t) (h : 46 ∉ TL.tl x) : readColumn tabs x = none := by
  refine col_part G (.inr ?_)
  rw [TL.partition_none dot_tl h]
  exact empty_no
theorem col_none {tabs : Tabs} {p c : Str} (G : ∀ t ∈ tabs, GoodTab t) (hp : 46 ∉ TL.tl p) (h : p ∉ NAMES ∨ c ∉ NAMES) : readColumn tabs (p ++ "." ++ c) = none := by
  refine col_part G ?_
  rw [TL.partition_app dot_tl hp]
  exact h
/-- a line that is no fact at any place: no fact at all, or one that leads from a table to itself -/
def Bad (tabs : Tabs) (x : Str) : Prop := readWords tabs (Txt.split x " ") = none ∨ ∃ f, readWords tabs (Txt.split x " ") = some f ∧ ∀ L, Back L f
theorem rw_self {tabs : Tabs} {p a b : Str} (hp : 46 ∉ TL.tl p) : readWords tabs [("found" : Str), p ++ "." ++ a, ("in" : Str), p ++ "." ++ b] = none ∨ ∃ f, readWords tabs [("found" : Str), p ++ "." ++ a, ("in" : Str), p ++ "." ++ b] = some f ∧ ∀ L, Back L f := by
  have key : ∀ {c : Str} {r : Place}, readColumn tabs (p ++ "." ++ c) = some r → r.1 = p := fun {c r} h => by
    unfold readColumn at h
    rw [TL.partition_app dot_tl hp] at h
    split at h
    · split at h
      · cases h; rfl
      · cases h
    · cases h
  rw [rw4e]
  cases e1 : readColumn tabs (p ++ "." ++ b) with
  | none => exact .inl rfl
  | some g =>
    cases e2 : readColumn tabs (p ++ "." ++ a) with
    | none => exact .inl rfl
    | some r =>
      refine .inr ⟨_, rfl, fun L => ⟨rfl, ?_⟩⟩
      show Reach L g.1 r.1
      rw [key e1, key e2]
      exact .here
theorem up_len {x : Str} (h : x ∈ NAMES) : (Txt.upper x).length ≤ 12 := by
  have z : ∀ x ∈ NAMES, (Txt.upper x).length ≤ 12 := by decide +kernel
  exact z x h
end L2.Pf
set_option maxHeartbeats 4000000
namespace L2.Pf
open PySem PySem.Spec PyProof.Rows L2.Ev L2.Tpd L2.Seti L2.Gq L2.Enf L2.Sett L2.Itr L2.Dls L2.Own L2.Ent
def linkLine (x y : Str) : Str := ("found " : Str) ++ x ++ " in " ++ y
/-- the links of a line -/
def linksOf (tabs : Tabs) (x : Str) : Links := match readWords tabs (Txt.split x " ") with
  | some f => linkOf f
  | none => []
/-- a fact whose link goes upward -/
def Up (tabs : Tabs) (r : Str → Nat) (x : Str) : Prop := ∃ f, readWords tabs (Txt.split x " ") = some f ∧ ∀ p ∈ linkOf f, r p.1 < r p.2
theorem reach_up {L : Links} {r : Str → Nat} (h : ∀ p ∈ L, r p.1 < r p.2) {a b : Str} (R : Reach L a b) : r a ≤ r b := by
  induction R with
  | here => exact Nat.le_refl _
  | step _ m ih => exact Nat.le_trans ih (Nat.le_of_lt (h _ m))
theorem run_ok {tabs : Tabs} {i : Nat} {L : Links} {x : Str} {ls : List Str} {f : Fact} (e : readWords tabs (Txt.split x " ") = some f) (b : ¬ Back L f) : runFacts tabs i L (x :: ls) = runFacts tabs (i + 1) (L ++ linkOf f) ls := by
  rw [runFacts_cons, e]
  exact if_neg b
theorem run_back {tabs : Tabs} {i : Nat} {L : Links} {x : Str} {ls : List Str} {f : Fact} (e : readWords tabs (Txt.split x " ") = some f) (b : Back L f) : runFacts tabs i L (x :: ls) = .error i := by
  rw [runFacts_cons, e]
  exact if_pos b
theorem run_bad {tabs : Tabs} {i : Nat} {L : Links} {x : Str} {ls : List Str} (b : Bad tabs x) : runFacts tabs i L (x :: ls) = .error i := by
  rcases b with b | ⟨f, e, b⟩
  · rw [runFacts_cons, b]
  · exact run_back e (b L)
theorem run_up {tabs : Tabs} {r : Str → Nat} : ∀ (ls : List Str) (i : Nat) (L : Links) (rest : List Str), (∀ p ∈ L, r p.1 < r p.2) → (∀ x ∈ ls, Up tabs r x) →
    runFacts tabs i L (ls ++ rest) = runFacts tabs (i + ls.length) (L ++ ls.flatMap (linksOf tabs)) rest ∧ ∀ p ∈ L ++ ls.flatMap (linksOf tabs), r p.1 < r p.2 := by
  intro ls
  induction ls with
  | nil => intro i L rest hL _; exact ⟨by simp, by simpa using hL⟩
  | cons x t ih =>
    intro i L rest hL h
    obtain ⟨f, e, up⟩ := h x List.mem_cons_self
    have hl : linksOf tabs x = linkOf f := by unfold linksOf; rw [e]
    have nb : ¬ Back L f := fun ⟨ef, R⟩ => by
      have z := up (f.2.1.1, (f.2.2.map (·.1)).getD Str.empty) (by unfold linkOf; rw [if_pos ef]; exact List.mem_singleton_self _)
      have z2 := reach_up hL R
      exact absurd z (Nat.not_lt.mpr z2)
    have hL2 : ∀ p ∈ L ++ linkOf f, r p.1 < r p.2 := fun p hp => (List.mem_append.mp hp).elim (hL p) (up p)
    obtain ⟨i1, i2⟩ := ih (i + 1) (L ++ linkOf f) rest hL2 fun y hy => h y (List.mem_cons_of_mem _ hy)
    have e2 : L ++ (x :: t).flatMap (linksOf tabs) = (L ++ linkOf f) ++ t.flatMap (linksOf tabs) := by rw [List.flatMap_cons, hl, List.append_assoc]
    rw [e2]
    refine ⟨?_, i2⟩
    rw [List.cons_append, run_ok e nb, i1, List.length_cons]
    congr 1
    omega
theorem ups_ok {tabs : Tabs} {r : Str → Nat} {ls : List Str} (h : ∀ x ∈ ls, Up tabs r x) : ∃ L, runFacts tabs 0 [] ls = .ok L := by
  have z := (run_up (r := r) ls 0 [] [] (fun p hp => by cases hp) h).1
  rw [List.append_nil] at z
  exact ⟨_, z.trans rfl⟩
/-! ### the lines that are facts -/
section
variable {tabs : Tabs} (G : ∀ t ∈ tabs, GoodTab t) (nd : (tabs.map (·.1)).Nodup)
include G in
theorem spot_nb {t : Str × List Str} {y : Str} (ht : t ∈ tabs) (hy : y ∈ t.2) : 32 ∉ TL.tl (spotOf t.1 y) := by
  unfold spotOf
  rw [TL.tl_append, TL.tl_append, dot_tl]
  have a := no_blank (G t ht).name
  have b := no_blank ((G t ht).cols y hy)
  simp only [List.mem_append, not_or]
  exact ⟨⟨a, by decide⟩, b⟩
include G nd in
theorem spot_read {t : Str × List Str} {y : Str} (ht : t ∈ tabs) (hy : y ∈ t.2) : readColumn tabs (spotOf t.1 y) = some (t.1, some y) := by
  unfold readColumn spotOf
  rw [TL.partition_app dot_tl (no_dot (G t ht).name), cols_of nd ht]
  exact if_pos (mem_inV.mpr hy)
theorem words2 {a b : Str} {x : Str} (e : x = a ++ " " ++ b) (ha : 32 ∉ TL.tl a) (hb : 32 ∉ TL.tl b) : Txt.split x " " = [a, b] := by
  refine words_are ?_ (by simp) ?_
  · rw [e, TL.tl_append, TL.tl_append, blank_tl]
    simp [TL.joinL]
  · intro p hp
    simp only [List.mem_cons, List.not_mem_nil, or_false] at hp
    rcases hp with rfl | rfl
    · exact ha
    · exact hb
theorem words4 {a b c d : Str} {x : Str} (e : x = a ++ " " ++ b ++ " " ++ c ++ " " ++ d) (ha : 32 ∉ TL.tl a) (hb : 32 ∉ TL.tl b) (hc : 32 ∉ TL.tl c) (hd : 32 ∉ TL.tl d) : Txt.split x " " = [a, b, c, d] := by
  refine words_are ?_ (by simp) ?_
  · rw [e]
    simp only [TL.tl_append, blank_tl, List.map_cons, List.map_nil, TL.joinL, List.append_assoc]
  · intro p hp
    simp only [List.mem_cons, List.not_mem_nil, or_false] at hp
    rcases hp with rfl | rfl | rfl | rfl
    · exact ha
    · exact hb
    · exact hc
    · exact hd
theorem no_link {f : Fact} (h : f.1 ≠ ("found" : Str)) : linkOf f = [] := by
  unfold linkOf
  exact if_neg h
include G in
theorem up_table {r : Str → Nat} {t : Str × List Str} {w x : Str} (ht : t ∈ tabs) (hx : x = w ++ " " ++ t.1) (hw : w = ("single" : Str) ∨ w = ("filled" : Str)) : Up tabs r x ∧ linksOf tabs x = [] := by
  have nb : 32 ∉ TL.tl w := by rcases hw with rfl | rfl <;> decide +kernel
  have hi : inV (.str w) k_OF_TABLES = true := by rcases hw with rfl | rfl <;> decide +kernel
  have nf : w ≠ ("found" : Str) := by rcases hw with rfl | rfl <;> decide +kernel
  have e : readWords tabs (Txt.split x " ") = some (w, (t.1, none), none) := by
    rw [words2 hx nb (no_blank (G t ht).name)]
    unfold readWords
    rw [if_pos ⟨rfl, hi⟩]
    show (readTable tabs t.1).map _ = _
    have z : readTable tabs t.1 = some (t.1, none) := by
      unfold readTable
      refine if_pos ?_
      have z2 : inV (.str t.1) ((tabs.map (·.1)).map V.str) = true := mem_inV.mpr (List.mem_map.mpr ⟨t, ht, rfl⟩)
      rw [List.map_map] at z2; exact z2
    rw [z]; rfl
  refine ⟨⟨_, e, fun p hp => ?_⟩, ?_⟩
  · rw [no_link nf] at hp; cases hp
  · unfold linksOf; rw [e]; exact no_link nf
include G nd in
theorem up_column {r : Str → Nat} {t : Str × List Str} {w x y : Str} (ht : t ∈ tabs) (hy : y ∈ t.2) (hx : x = w ++ " " ++ spotOf t.1 y) (hw : w = ("unique" : Str) ∨ w = ("sorted" : Str)) : Up tabs r x ∧ linksOf tabs x = [] := by
  have nb : 32 ∉ TL.tl w := by rcases hw with rfl | rfl <;> decide +kernel
  have hi : inV (.str w) k_OF_COLUMNS = true := by rcases hw with rfl | rfl <;> decide +kernel
  have hi2 : ¬ inV (.str w) k_OF_TABLES = true := by rcases hw with rfl | rfl <;> decide +kernel
  have nf : w ≠ ("found" : Str) := by rcases hw with rfl | rfl <;> decide +kernel
  have e : readWords tabs (Txt.split x " ") = some (w, (t.1, some y), none) := by
    rw [words2 hx nb (spot_nb G ht hy)]
    unfold readWords
    rw [if_neg (fun z => hi2 z.2), if_pos ⟨rfl, hi⟩]
    show (readColumn tabs (spotOf t.1 y)).map _ = _
    rw [spot_read G nd ht hy]; rfl
  refine ⟨⟨_, e, fun p hp => ?_⟩, ?_⟩
  · rw [no_link nf] at hp; cases hp
  · unfold linksOf; rw [e]; exact no_link nf
theorem link_text {a b : Str} : linkLine a b = ("found" : Str) ++ " " ++ a ++ " " ++ "in" ++ " " ++ b := by
  have e1 : ("found " : Str) = ("found" : Str) ++ " " := by decide +kernel
  have e2 : (" in " : Str) = (" " : Str) ++ "in" ++ " " := by decide +kernel
  unfold linkLine
  rw [e1, e2]
  simp only [Str.append_assoc]
include G nd in
theorem link_read {t u : Str × List Str} {y z : Str} (ht : t ∈ tabs) (hy : y ∈ t.2) (hu : u ∈ tabs) (hz : z ∈ u.2) : readWords tabs (Txt.split (linkLine (spotOf t.1 y) (spotOf u.1 z)) " ") = some (("found" : Str), (t.1, some y), some (u.1, some z)) := by
  rw [words4 link_text (by decide +kernel) (spot_nb G ht hy) (by decide +kernel) (spot_nb G hu hz), rw4e, spot_read G nd ht hy, spot_read G nd hu hz]
  rfl
theorem link_of {a b : Place} : linkOf (("found" : Str), a, some b) = [(a.1, b.1)] := by
  unfold linkOf
  exact if_pos rfl
include G nd in
theorem link_links {t u : Str × List Str} {y z : Str} (ht : t ∈ tabs) (hy : y ∈ t.2) (hu : u ∈ tabs) (hz : z ∈ u.2) : linksOf tabs (linkLine (spotOf t.1 y) (spotOf u.1 z)) = [(t.1, u.1)] := by
  unfold linksOf
  rw [link_read G nd ht hy hu hz]
  exact link_of
include G nd in
theorem up_link {r : Str → Nat} {t u : Str × List Str} {y z : Str} (ht : t ∈ tabs) (hy : y ∈ t.2) (hu : u ∈ tabs) (hz : z ∈ u.2) (h : r t.1 < r u.1) : Up tabs r (linkLine (spotOf t.1 y) (spotOf u.1 z)) := by
  refine ⟨_, link_read G nd ht hy hu hz, fun p hp => ?_⟩
  rw [link_of] at hp
  rw [List.mem_singleton.mp hp]
  exact h
def rk (o : List Str) (x : Str) : Nat := o.idxOf x
theorem rk_get {o : List Str} (h : o.Nodup) {i : Nat} {x : Str} (e : o[i]? = some x) : rk o x = i := by
  obtain ⟨hi, e⟩ := List.getElem?_eq_some_iff.mp e
  unfold rk
  rw [← e]
  exact h.idxOf_getElem i hi
include G nd in
theorem fact_up {order : Tabs} {x : Str} (hp : order.Perm tabs) (h : FactOf order x) : Up tabs (rk (order.map (·.1))) x := by
  have m : ∀ {t}, t ∈ order → t ∈ tabs := fun h => hp.mem_iff.mp h
  have no : (order.map (·.1)).Nodup := (hp.map _).nodup_iff.mpr nd
  cases h with
  | single ht => exact (up_table G (m ht) (by rw [show ("single " : Str) = ("single" : Str) ++ " " by decide +kernel]) (.inl rfl)).1
  | filled ht => exact (up_table G (m ht) (by rw [show ("filled " : Str) = ("filled" : Str) ++ " " by decide +kernel]) (.inr rfl)).1
  | unique ht hy => exact (up_column G nd (m ht) hy (by rw [show ("unique " : Str) = ("unique" : Str) ++ " " by decide +kernel]) (.inl rfl)).1
  | sorted ht hy => exact (up_column G nd (m ht) hy (by rw [show ("sorted " : Str) = ("sorted" : Str) ++ " " by decide +kernel]) (.inr rfl)).1
  | found hij hi hj hy hz =>
    refine up_link G nd (m (List.mem_of_getElem? hi)) hy (m (List.mem_of_getElem? hj)) hz ?_
    rw [rk_get no (by rw [List.getElem?_map, hi]; rfl), rk_get no (by rw [List.getElem?_map, hj]; rfl)]
    exact hij
end
end L2.Pf
set_option maxHeartbeats 4000000
namespace L2.Pf
open PySem PySem.Spec PyProof.Rows L2.Ev L2.Tpd L2.Seti L2.Gq L2.Enf L2.Sett L2.Itr L2.Dls L2.Own L2.Ent
theorem line_tl : TL.tl ("\n" : Str) = 10 :: [] := by decide +kernel
theorem names_are : ∀ x ∈ NAMES, isName x = true := by decide +kernel
theorem tl_joinM {y : Str} {c : Nat} (hy : c ∉ TL.tl y) : ∀ {ws : List Str}, (∀ x ∈ ws, c ∉ TL.tl x) → c ∉ TL.tl (Txt.join y ws) := by
  intro ws h
  rw [TL.join_eq, TL.tl_join]
  induction ws with
  | nil => simp [TL.joinL]
  | cons a r ih =>
    cases r with
    | nil => simpa [TL.joinL] using h a List.mem_cons_self
    | cons b r =>
      have i := ih fun x hx => h x (List.mem_cons_of_mem _ hx)
      simp only [List.map_cons, TL.joinL, List.mem_append, not_or] at i ⊢
      exact ⟨h a List.mem_cons_self, hy, i⟩
theorem DrawnTabs.good {m : Nat} {tabs : Tabs} (D : DrawnTabs m tabs) : ∀ t ∈ tabs, GoodTab t := fun t ht => by
  obtain ⟨a, b, c, d⟩ := D.cols t ht
  exact ⟨D.names t ht, a, b, d⟩
theorem line_words {t : Str × List Str} (G : GoodTab t) : Txt.split (tabLine t) " " = ("table" : Str) :: t.1 :: t.2 := by
  unfold tabLine
  refine TL.split_join blank_tl (by decide +kernel) (by simp) fun p hp => ?_
  rcases List.mem_cons.mp hp with rfl | hp
  · decide +kernel
  rcases List.mem_cons.mp hp with rfl | hp
  · exact no_blank G.name
  · exact no_blank (G.cols p hp)
theorem text_lines {m : Nat} {tabs : Tabs} (D : DrawnTabs m tabs) : linesOf (schemaText tabs) = tabs.map tabLine := by
  have e : Txt.split (schemaText tabs) "\n" = tabs.map tabLine := by
    unfold schemaText
    refine TL.split_join line_tl (by decide +kernel) (fun z => D.ne (List.map_eq_nil_iff.mp z)) fun p hp => ?_
    obtain ⟨t, ht, rfl⟩ := List.mem_map.mp hp
    have G := D.good t ht
    unfold tabLine
    refine tl_joinM (by decide +kernel) fun x hx => ?_
    rcases List.mem_cons.mp hx with rfl | hx
    · decide +kernel
    rcases List.mem_cons.mp hx with rfl | hx
    · exact no_line G.name
    · exact no_line (G.cols x hx)
  have ne : schemaText tabs ≠ ("" : Str) := fun z => by
    rw [z] at e
    have e2 : Txt.split ("" : Str) "\n" = [("" : Str)] := by decide +kernel
    rw [e2] at e
    cases tabs with
    | nil => exact D.ne rfl
    | cons t r =>
      have z := (List.cons.inj e).1
      have w := line_words (D.good t List.mem_cons_self)
      rw [← z] at w
      have e3 : Txt.split ("" : Str) " " = [("" : Str)] := by decide +kernel
      rw [e3] at w
      have z2 := (List.cons.inj w).2
      cases z2
  unfold linesOf
  rw [if_neg ne, e]
theorem text_tabs {m : Nat} {tabs : Tabs} (D : DrawnTabs m tabs) : (linesOf (schemaText tabs)).map tabOf = tabs := by
  rw [text_lines D, List.map_map]
  have z : ∀ t ∈ tabs, (tabOf ∘ tabLine) t = t := fun t ht => by
    show tabOf (tabLine t) = t
    unfold tabOf
    rw [line_words (D.good t ht)]
    rfl
  rw [List.map_congr_left z]
  exact List.map_id' tabs
theorem tabLine_len {t : Str × List Str} (G : GoodTab t) : (tabLine t).length ≤ 100 := by
  have z := join_len " " ("table" :: t.1 :: t.2)
  have z1 := sum_len (l := t.2) (k := 12) fun x hx => names_len (G.cols x hx)
  have z2 := names_len G.name
  have hf := G.few
  unfold tabLine
  simp only [List.map_cons, List.sum_cons, List.length_cons] at z
  have e5 : ("table" : Str).length = 5 := by decide +kernel
  have e6 : (" " : Str).length = 1 := by decide +kernel
  rw [e5, e6] at z
  omega
theorem text_good {tabs : Tabs} (D : DrawnTabs 4 tabs) : GoodText (schemaText tabs) where
  len := by
    have z := join_len "\n" (tabs.map tabLine)
    have z1 := sum_len (l := tabs.map tabLine) (k := 100) fun x hx => by
      obtain ⟨t, ht, rfl⟩ := List.mem_map.mp hx
      exact tabLine_len (D.good t ht)
    have e6 : ("\n" : Str).length = 1 := by decide +kernel
    have hf := D.few
    unfold schemaText
    rw [e6] at z
    rw [List.length_map] at z z1
    omega
  ne := by rw [text_lines D]; exact fun z => D.ne (List.map_eq_nil_iff.mp z)
  few := by rw [text_lines D, List.length_map]; exact D.few
  size := by
    rw [text_lines D]
    intro l hl
    obtain ⟨t, ht, rfl⟩ := List.mem_map.mp hl
    have G := D.good t ht
    have hl := tabLine_len G
    have hf := G.few
    refine ⟨by omega, by rw [line_words G]; simp only [List.length_cons]; omega, fun y hy => ?_⟩
    have z := part_short hy
    omega
  ok := by
    rw [text_lines D]
    intro l hl
    obtain ⟨t, ht, rfl⟩ := List.mem_map.mp hl
    have G := D.good t ht
    obtain ⟨c1, c2, c3, c4⟩ := D.cols t ht
    rw [line_words G]
    unfold isTableLine
    have h1 : 1 ≤ t.2.length := by
      cases h : t.2 with
      | nil => exact absurd h c1
      | cons _ _ => simp
    rw [Bool.and_eq_true, Bool.and_eq_true]
    refine ⟨⟨?_, ?_⟩, ?_⟩
    · simp
      omega
    · refine List.all_eq_true.mpr fun i hi => ?_
      have hi := List.mem_range.mp hi
      rw [List.getD_eq_getElem?_getD, List.getElem?_eq_getElem hi]
      have hm : ((("table" : Str) :: t.1 :: t.2).drop 1)[i] ∈ t.1 :: t.2 := List.getElem_mem hi
      rcases List.mem_cons.mp hm with h | h
      · show isName _ = true
        rw [Option.getD_some, h]
        exact names_are _ G.name
      · exact names_are _ (c4 _ h)
    · refine decide_eq_true (met_nodup _ ?_ _ (Nat.le_refl _))
      exact c3
  nd := by
    have z : (linesOf (schemaText tabs)).map (fun l => (tabOf l).1) = tabs.map (·.1) := by
      have z := congrArg (List.map (·.1)) (text_tabs D)
      rw [List.map_map] at z
      exact z
    rw [z]
    exact D.nd
end L2.Pf
set_option maxHeartbeats 2000000
namespace L2.Pf
open PySem PySem.Spec PyProof.Rows L2.Ev L2.Tpd L2.Seti L2.Gq L2.Enf L2.Sett L2.Itr L2.Dls L2.Own L2.Ent
/-- how the words of a drawn fact look -/
inductive Form (tabs : Tabs) (x : Str) : Prop
  | table {t : Str × List Str} {wd : Str} : t ∈ tabs → (wd = ("single" : Str) ∨ wd = ("filled" : Str)) → Txt.split x " " = [wd, t.1] → readWords tabs [wd, t.1] = some (wd, (t.1, none), none) → Form tabs x
  | column {t : Str × List Str} {wd y : Str} : t ∈ tabs → y ∈ t.2 → (wd = ("unique" : Str) ∨ wd = ("sorted" : Str)) → Txt.split x " " = [wd, spotOf t.1 y] → readWords tabs [wd, spotOf t.1 y] = some (wd, (t.1, some y), none) → Form tabs x
  | found {t u : Str × List Str} {y z : Str} : t ∈ tabs → y ∈ t.2 → u ∈ tabs → z ∈ u.2 → Txt.split x " " = [("found" : Str), spotOf t.1 y, ("in" : Str), spotOf u.1 z] →
      readWords tabs [("found" : Str), spotOf t.1 y, ("in" : Str), spotOf u.1 z] = some (("found" : Str), (t.1, some y), some (u.1, some z)) → Form tabs x
theorem fact_form {tabs order : Tabs} {x : Str} (G : ∀ t ∈ tabs, GoodTab t) (nd : (tabs.map (·.1)).Nodup) (hp : order.Perm tabs) (h : FactOf order x) : Form tabs x := by
  have m : ∀ {t}, t ∈ order → t ∈ tabs := fun h => hp.mem_iff.mp h
  have tb : ∀ {t : Str × List Str} {w x : Str}, t ∈ tabs → x = w ++ " " ++ t.1 → (w = ("single" : Str) ∨ w = ("filled" : Str)) → Form tabs x := fun {t w x} ht hx hw => by
    have nb : 32 ∉ TL.tl w := by rcases hw with rfl | rfl <;> decide +kernel
    have hi : inV (.str w) k_OF_TABLES = true := by rcases hw with rfl | rfl <;> decide +kernel
    refine .table ht hw (words2 hx nb (no_blank (G t ht).name)) ?_
    unfold readWords
    rw [if_pos ⟨rfl, hi⟩]
    show (readTable tabs t.1).map _ = _
    have z : readTable tabs t.1 = some (t.1, none) := by
      unfold readTable
      refine if_pos ?_
      have z2 : inV (.str t.1) ((tabs.map (·.1)).map V.str) = true := mem_inV.mpr (List.mem_map.mpr ⟨t, ht, rfl⟩)
      rw [List.map_map] at z2; exact z2
    rw [z]; rfl
  have cl : ∀ {t : Str × List Str} {w x y : Str}, t ∈ tabs → y ∈ t.2 → x = w ++ " " ++ spotOf t.1 y → (w = ("unique" : Str) ∨ w = ("sorted" : Str)) → Form tabs x := fun {t w x y} ht hy hx hw => by
    have nb : 32 ∉ TL.tl w := by rcases hw with rfl | rfl <;> decide +kernel
    have hi : inV (.str w) k_OF_COLUMNS = true := by rcases hw with rfl | rfl <;> decide +kernel
    have hi2 : ¬ inV (.str w) k_OF_TABLES = true := by rcases hw with rfl | rfl <;> decide +kernel
    refine .column ht hy hw (words2 hx nb (spot_nb G ht hy)) ?_
    unfold readWords
    rw [if_neg (fun z => hi2 z.2), if_pos ⟨rfl, hi⟩]
    show (readColumn tabs (spotOf t.1 y)).map _ = _
    rw [spot_read G nd ht hy]; rfl
  cases h with
  | single ht => exact tb (m ht) (by rw [show ("single " : Str) = ("single" : Str) ++ " " by decide +kernel]) (.inl rfl)
  | filled ht => exact tb (m ht) (by rw [show ("filled " : Str) = ("filled" : Str) ++ " " by decide +kernel]) (.inr rfl)
  | unique ht hy => exact cl (m ht) hy (by rw [show ("unique " : Str) = ("unique" : Str) ++ " " by decide +kernel]) (.inl rfl)
  | sorted ht hy => exact cl (m ht) hy (by rw [show ("sorted " : Str) = ("sorted" : Str) ++ " " by decide +kernel]) (.inr rfl)
  | found hij e1 e2 hy hz =>
    have ht := m (List.mem_of_getElem? e1)
    have hu := m (List.mem_of_getElem? e2)
    refine .found ht hy hu hz (words4 link_text (by decide +kernel) (spot_nb G ht hy) (by decide +kernel) (spot_nb G hu hz)) ?_
    rw [rw4e, spot_read G nd ht hy, spot_read G nd hu hz]; rfl
def ColForm (tabs : Tabs) (x : Str) (t : Str × List Str) (wd y : Str) (rest : List Str) (f : Fact) : Prop := t ∈ tabs ∧ y ∈ t.2 ∧ Txt.split x " " = wd :: spotOf t.1 y :: rest ∧ readWords tabs (wd :: spotOf t.1 y :: rest) = some f ∧ f.1 = wd ∧ f.2.1 = (t.1, some y) ∧ wd ≠ ("single" : Str) ∧ wd ≠ ("filled" : Str) ∧
  ((wd = ("unique" : Str) ∨ wd = ("sorted" : Str)) ∨ (wd ≠ ("unique" : Str) ∧ wd ≠ ("sorted" : Str) ∧ ∃ u z, u ∈ tabs ∧ z ∈ u.2 ∧ rest = [("in" : Str), spotOf u.1 z] ∧ f.2.2 = some (u.1, some z)))
theorem Form.two {tabs : Tabs} {x : Str} (h : Form tabs x) : (∃ (t : Str × List Str) (wd : Str), t ∈ tabs ∧ (wd = ("single" : Str) ∨ wd = ("filled" : Str)) ∧ Txt.split x " " = [wd, t.1] ∧ readWords tabs [wd, t.1] = some (wd, (t.1, none), none)) ∨ ∃ t wd y rest f, ColForm tabs x t wd y rest f := by
  cases h with
  | @table t wd ht hw hs he => exact .inl ⟨t, wd, ht, hw, hs, he⟩
  | @column t wd y ht hy hw hs he => exact .inr ⟨t, wd, y, [], _, ht, hy, hs, he, rfl, rfl, by rcases hw with rfl | rfl <;> decide +kernel, by rcases hw with rfl | rfl <;> decide +kernel, .inl hw⟩
  | @found t u y z ht hy hu hz hs he => exact .inr ⟨t, _, y, _, _, ht, hy, hs, he, rfl, rfl, by decide +kernel, by decide +kernel, .inr ⟨by decide +kernel, by decide +kernel, u, z, hu, hz, rfl, rfl⟩⟩
theorem dot_out : ∀ x ∈ NAMES, (Builtin.Str.occurrences x ("." : Str) 0 x.length 1).isEmpty = true := by decide +kernel
theorem dot_here : ∀ x ∈ NAMES, ∀ y ∈ NAMES, (Builtin.Str.occurrences (spotOf x y) ("." : Str) 0 (spotOf x y).length 1).isEmpty = false := by decide +kernel
theorem spot_split : ∀ x ∈ NAMES, ∀ y ∈ NAMES, Txt.split (spotOf x y) "." = [x, y] := by decide +kernel
theorem inV_int {n : Int} : ∀ {ms : List Int}, inV (.int n) (ms.map V.int) = decide (n ∈ ms)
  | [] => rfl
  | m :: r => by
    have e : inV (.int n) ((m :: r).map V.int) = (eqV (.int m) (.int n) || inV (.int n) (r.map V.int)) := rfl
    have e2 : eqV (.int m) (.int n) = decide (m = n) := by
      by_cases c : m = n
      · subst c; simp [eqV]
      · rw [decide_eq_false c]
        simp [eqV, c]
    rw [e, inV_int (ms := r), e2]
    by_cases c : m = n
    · subst c
      rw [decide_eq_true rfl, decide_eq_true List.mem_cons_self]; rfl
    · rw [decide_eq_false c, Bool.false_or]
      exact decide_eq_decide.mpr ⟨fun h => List.mem_cons_of_mem _ h, fun h => (List.mem_cons.mp h).resolve_left (fun z => c z.symm)⟩
theorem flat_ints (ms : List Int) : (ms.map V.int).all flatV = true := by rw [List.all_map]; exact List.all_eq_true.mpr fun _ _ => rfl
theorem index_facts {cs : List Str} {c : Str} (hc : c ∈ cs) : (cs.map V.str).all flatV = true ∧ (cs.map V.str)[cs.idxOf c]? = some (V.str c) ∧ eqV (.str c) (.str c) = true ∧ ∀ (m : Nat) (z' : V), m < cs.idxOf c → (cs.map V.str)[m]? = some z' → eqV z' (.str c) = false := by
  have hix : cs.idxOf c < cs.length := List.idxOf_lt_length_of_mem hc
  refine ⟨?_, ?_, ?_, ?_⟩
  · rw [List.all_map]; exact List.all_eq_true.mpr fun _ _ => rfl
  · rw [List.getElem?_map, List.getElem?_eq_getElem hix, List.getElem_idxOf hix]; rfl
  · rw [eqV_str]; exact decide_eq_true rfl
  · intro m z' hm e
    rw [List.getElem?_map] at e
    obtain ⟨x, e1, rfl⟩ := Option.map_eq_some_iff.mp e
    obtain ⟨hm2, e2⟩ := List.getElem?_eq_some_iff.mp e1
    rw [eqV_str]
    refine decide_eq_false fun z => ?_
    have z2 := List.not_of_lt_findIdx (p := (· == c)) (xs := cs) hm
    rw [e2, z] at z2
    simp at z2
end L2.Pf
set_option maxHeartbeats 2000000
namespace L2.Pf
open PySem PySem.Spec PyProof.Rows L2.Ev L2.Tpd L2.Seti L2.Gq L2.Enf L2.Sett L2.Itr L2.Dls L2.Own L2.Ent
section
variable {P : Program} {w : World} {K : PySem.W.Frag} {mg : Str → Option Value} {base : Heap}
def sp_law_keeps : Sp := fun vs H Q _ => ∃ (a d : Addr) (x : Str) (tabs : Tabs) (dat : Dat), vs = [.ref a, .str x, .ref d] ∧ PlainAt H a tabs ∧ DatAt H d dat ∧ DatOk tabs dat ∧ DrawnTabs 4 tabs ∧ Form tabs x ∧ x.length ≤ 1000 ∧ ∀ H', Same H H' → Q (.bl (lineKept tabs dat x)) H'
theorem ok_keeps (T : TX K mg) (B : TB T base) : FnOk P w K mg base CX0 2 T.a_keeps T.fd_keeps p_keeps sp_law_keeps := by
  refine T.F_keeps.ok sc_keeps (fun vs H Q E h => ?_) (fun cdv A outer s H vs Q E hr h => ?_)
  · obtain ⟨a, d, x, tabs, dat, rfl, _⟩ := h
    rfl
  · obtain ⟨a, d, x, tabs, dat, rfl, hP, hD, hO, hT, hF, hx, k⟩ := h
    refine ⟨_, (pss_cons (ps_set (i := 3) sc_keeps.nd rfl (Or.inl rfl) (pe_split (pv 1) pe_str))
  (pss_cons (ps_asg (pe_ifExp (pt_cmpR op_in_str pe_str (pe_ix ix_list (pv 3) pe_int (fun _ _ => rfl)) (by rfl)) (pe_split (pe_ix ix_list (pv 3) pe_int (fun _ _ => rfl)) pe_str) (pe_lstS (pa_cons (pe_ix ix_list (pv 3) pe_int (fun _ _ => rfl)) (pa_cons pe_str pa_nil)))) (pg_lst rfl (pgs_cons (pg_name (i := 4) sc_keeps.nd rfl (Or.inl rfl)) (pgs_cons (pg_name (i := 5) sc_keeps.nd rfl (Or.inl rfl)) pgs_nil))))
  (pss_cons (ps_if (pt_cmpR op_in_seq (pe_ix ix_list (pv 3) pe_int (fun _ _ => rfl)) (pe_tupS (pa_cons pe_str (pa_cons pe_str pa_nil))) (by rfl)) (pss_one (ps_ret (pe_ifExp (pt_cmpR op_eq (pe_ix ix_list (pv 3) pe_int (fun _ _ => rfl)) pe_str (nomark _)) (pe_cmpR op_lt (pe_callB call_len_seq (by rfl) T.z_len (by decide +kernel) (pa_cons (pe_dget (hu_of hr) (pv 2) (pv 4) (fun _ _ => rfl)) pa_nil)) pe_int (nomark _)) (pe_cmpR (op_neNil hr.units0) (pe_dget (hu_of hr) (pv 2) (pv 4) (fun _ _ => rfl)) (pe_lstS pa_nil) (nomark _))))) pss_nil)
  (pss_cons (ps_set (i := 6) sc_keeps.nd rfl (Or.inr rfl) (pe_bm PySem.F.plainAttrs_list PySem.F.slot_list_index PySem.F.type_list_index mt_index (pe_call (ok_columns T B) (hr.mono (by decide)) rfl T.g_columns T.F_columns.kp T.b_columns .nil pass0 (pa_cons (pv 0) (pa_cons (pv 4) pa_nil))) (pa_cons (pv 5) pa_nil)))
  (pss_cons (ps_setLc (i := 7) (own := [("_law_row", 8)]) (g := gName 8) (tt := tYes) rfl sc_keeps.nd rfl rfl (sw_true rfl rfl rfl (by decide +kernel)) (pi_list (pe_dget (hu_of hr) (pv 2) (pv 4) (fun _ _ => rfl))) (blkOk_by (own := [("_law_row", 8)]) (N := n_keeps) (sc := defScope s_keeps) (by decide +kernel)) (fun _ _ _ _ _ => (pg_name (i := 8) sc_keeps.nd rfl (Or.inl rfl))) (fun _ _ _ _ _ => pts_nil) (fun _ _ _ _ _ => (pe_ix (ix_tupK (K := K)) (pv 8) (pv 6) (fun _ _ => rfl))))
  (pss_cons (ps_if (pt_cmpR op_eq (pe_ix ix_list (pv 3) pe_int (fun _ _ => rfl)) pe_str (nomark _)) (pss_one (ps_ret (pe_cmpR op_eq (pe_callB call_len_seq (by rfl) T.z_len (by decide +kernel) (pa_cons (pv 7) pa_nil)) (pe_lenSetN rfl (by rfl) T.z_len (by rfl) T.z_set (pv 7)) (nomark _)))) pss_nil)
  (pss_cons (ps_if (pt_cmpR op_eq (pe_ix ix_list (pv 3) pe_int (fun _ _ => rfl)) pe_str (nomark _)) (pss_one (ps_ret (pe_cmpR (op_eqD hr.units) (pv 7) (pe_callB cr_sorted (by rfl) T.z_sorted (by decide +kernel) (pa_cons (pv 7) pa_nil)) (nomark _)))) pss_nil)
  (pss_cons (ps_asg (pe_split (pe_ix ix_list (pv 3) pe_int (fun _ _ => rfl)) pe_str) (pg_lst rfl (pgs_cons (pg_name (i := 9) sc_keeps.nd rfl (Or.inr rfl)) (pgs_cons (pg_name (i := 10) sc_keeps.nd rfl (Or.inr rfl)) pgs_nil))))
  (pss_cons (ps_set (i := 11) sc_keeps.nd rfl (Or.inr rfl) (pe_lc (own := [("_law_row", 8)]) (g := gName 8) (tt := tYes) rfl sc_keeps.nd (pi_list (pe_dget (hu_of hr) (pv 2) (pv 9) (fun _ _ => rfl))) (blkOk_by (own := [("_law_row", 8)]) (N := n_keeps) (sc := defScope s_keeps) (by decide +kernel)) (fun _ _ _ _ _ => (pg_name (i := 8) sc_keeps.nd rfl (Or.inl rfl))) (fun _ _ _ _ _ => pts_nil) (fun _ _ _ _ _ => (pe_ix (ix_tupK (K := K)) (pv 8) (pe_bmK (K := K) rfl PySem.F.plainAttrs_list PySem.F.slot_list_index PySem.F.type_list_index (mt_indexK (K := K)) (pe_call (ok_columns T B) (hr.mono (by decide)) rfl T.g_columns T.F_columns.kp T.b_columns .nil pass0 (pa_cons (pv 0) (pa_cons (pv 9) pa_nil))) (pa_cons (pv 10) pa_nil)) (fun _ _ => rfl)))))
  (pss_one (ps_ret (pe_cmpR (op_eqNil hr.units0) (pe_lc (own := [("_law_value", 12)]) (g := gName 12) (tt := _) rfl sc_keeps.nd (pi_list (pv 7)) (blkOk_by (own := [("_law_value", 12)]) (N := n_keeps) (sc := defScope s_keeps) (by decide +kernel)) (fun _ _ _ _ _ => (pg_name (i := 12) sc_keeps.nd rfl (Or.inl rfl))) (fun _ _ _ _ _ => pts_one (pt_cmpR (op_notInK (K := K)) (pv 12) (pv 11) (by rfl))) (fun _ _ _ _ _ => (pv 12))) (pe_lstS pa_nil) (nomark _))))))))))))), ?_⟩
    have eqs : ∀ (x y : Str), decide (V.str x = V.str y) = decide (x = y) := fun x y => by
      by_cases h : x = y
      · rw [decide_eq_true h, decide_eq_true (by rw [h])]
      · rw [decide_eq_false h, decide_eq_false (fun z => h (by cases z; rfl))]
    have G := hT.good
    have h4 := hT.few
    refine ⟨_, rfl, ⟨_, rfl⟩, _, _, rfl, rfl, by decide, by rw [sizeLine_eq]; omega, fun p0 np0 => ?_⟩
    have s1 : Same H (upd H p0 (.lst ((Txt.split x " ").map V.str))) := Same.new (Same.refl _) np0
    have e1 : (upd H p0 (.lst ((Txt.split x " ").map V.str))) p0 = some (.lst ((Txt.split x " ").map V.str)) := upd_same
    have dg : ∀ {x : Str} {cs : List Str}, colsOf tabs x = some cs → ∃ (l : Addr) (rs : List (List Int)) (qs : List Addr), rowsOf dat x = some rs ∧ rowsD dat x = rs ∧ rs.length < 64 ∧ (∀ r ∈ rs, r.length = cs.length) ∧ H l = some (.lst (qs.map V.ref)) ∧ Paired (RowAt H) qs rs ∧ ∀ H', Same H H' → DGet H' d (.str x) (some (.ref l)) := fun {x cs} e => by
      obtain ⟨rs, r0, r1, r2⟩ := hO.col e
      obtain ⟨kvs, d1, d2⟩ := hD
      have d2 : Paired (DatF H) kvs dat := d2
      rcases dat_rows d2 x with ⟨v0, z⟩ | ⟨l, rs', v0, z, qs, hl, hqs⟩
      · rw [r0] at z; cases z
      rw [r0] at z
      cases z
      refine ⟨l, rs, qs, r0, by unfold rowsD; rw [r0]; rfl, r2, r1, hl, hqs, fun H' s => ?_⟩
      have z := DGet.k (k := .inr x) (s _ _ d1)
      rw [v0] at z; exact z
    have nd := hT.nd
    have splen : ∀ {t : Str × List Str} {y : Str}, t ∈ tabs → y ∈ t.2 → (spotOf t.1 y).length + 2 ≤ sizeLine := fun {t y} ht hy => by
      have z : ∀ x ∈ NAMES, ∀ y ∈ NAMES, (spotOf x y).length ≤ 100 := by decide +kernel
      have z2 := z _ (G _ ht).name _ ((G _ ht).cols y hy)
      rw [sizeLine_eq]; omega
    rcases hF.two with ⟨t, wd, ht, hw, hs, he⟩ | ⟨t, wd, y, rest, f, ht, hy, hs, he, hf1, hf2, c1, c2, hcase⟩
    · have k : ∀ H', Same H H' → Q (.bl (keepsB tabs dat (wd, (t.1, none), none))) H' := fun H' s => by
        have z := k H' s
        unfold lineKept at z
        rw [hs, he] at z
        exact z
      rw [hs] at s1 e1 ⊢
      generalize upd H p0 (.lst ([wd, t.1].map V.str)) = H1 at s1 e1
      obtain ⟨l, rs, qs, r0, r1, r2, r3, hl, hqs, hdg⟩ := dg (cols_of nd ht)
      have hql := Paired.length hqs
      refine ⟨_, rfl, p0, _, 1, _, rfl, rfl, SqL.of e1, atI_nat (k := 1) rfl, _, _, rfl, rfl, _, rfl, ?_⟩
      rw [dot_out _ (G t ht).name]
      refine iteF ⟨_, rfl, p0, _, 1, _, rfl, rfl, SqL.of e1, atI_nat (k := 1) rfl, (by show 2 ≤ sizeLine; decide), fun l1 H2 n2 s2 e2 => ?_⟩
      refine ⟨l1, _, rfl, SqL.of e2, rfl, _, _, rfl, _, _, rfl, rfl, ?_⟩
      have s02 := s1.trans s2
      refine ⟨_, rfl, p0, _, 0, _, rfl, rfl, SqL.of (s2 _ _ e1), atI_nat (k := 0) rfl, (by show 2 ≤ sizeLine; decide), fun l3 H3 n3 s3 e3 => ?_⟩
      have s03 := s02.trans s3
      refine ⟨l3, _, rfl, .inr (SqT.of e3), rfl, rfl, _, rfl, ?_⟩
      have hin : inV (.str wd) [V.str "single", V.str "filled"] = true := by rcases hw with rfl | rfl <;> rfl
      have ep3 := s3 _ _ (s2 _ _ e1)
      rw [show (if false = true then !inV (.str wd) [V.str "single", V.str "filled"] else inV (.str wd) [V.str "single", V.str "filled"]) = true from hin]
      refine iteT ⟨_, rfl, p0, _, 0, _, rfl, rfl, SqL.of ep3, atI_nat (k := 0) rfl, rfl, _, rfl, ?_⟩
      rw [eqs]
      have z := k H3 s03
      unfold keepsB at z
      by_cases c1 : wd = ("single" : Str)
      · rw [decide_eq_true c1]
        rw [if_pos c1, show rowsD dat (wd, (t.1, (none : Option Str)), (none : Option Place)).2.1.1 = rs from r1] at z
        refine iteT ⟨_, rfl, _, rfl, d, .ref l, rfl, hdg _ s03, l, _, rfl, .inl (SqL.of (s03 _ _ hl)), _, 2, rfl, rfl, ?_⟩
        have e : decide (((qs.map V.ref).length : Int) < 2) = decide (rs.length ≤ 1) := by rw [List.length_map, hql]; exact decide_eq_decide.mpr ⟨fun h => by omega, fun h => by omega⟩
        have z2 : Q (.bl (decide (((qs.map V.ref).length : Int) < 2))) H3 := by rw [e]; exact z
        exact z2
      · rw [decide_eq_false c1]
        have c2 := hw.resolve_left c1
        rw [if_neg c1, if_pos c2, show rowsD dat (wd, (t.1, (none : Option Str)), (none : Option Place)).2.1.1 = rs from r1] at z
        refine iteF ⟨_, rfl, _, rfl, d, .ref l, rfl, hdg _ s03, (by show 0 ≤ sizeLine; decide), fun l4 H4 n4 s4 e4 => ?_⟩
        refine ⟨l, l4, _, rfl, rfl, SqL.of (s4 _ _ (s03 _ _ hl)), SqL.of e4, ?_⟩
        have z := k H4 (s03.trans s4)
        unfold keepsB at z
        rw [if_neg c1, if_pos c2, show rowsD dat (wd, (t.1, (none : Option Str)), (none : Option Place)).2.1.1 = rs from r1] at z
        have e : (!(qs.map V.ref).isEmpty) = decide (1 ≤ rs.length) := by
          rw [← hql]
          cases qs <;> simp
        have z2 : Q (.bl (!(qs.map V.ref).isEmpty)) H4 := by rw [e]; exact z
        exact z2
    · have k : ∀ H', Same H H' → Q (.bl (keepsB tabs dat f)) H' := fun H' s => by
        have z := k H' s
        unfold lineKept at z
        rw [hs, he] at z
        exact z
      rw [hs] at s1 e1 ⊢
      generalize upd H p0 (.lst ((wd :: spotOf t.1 y :: rest).map V.str)) = H1 at s1 e1
      obtain ⟨l, rs, qs, r0, r1, r2, r3, hl, hqs, hdg⟩ := dg (cols_of nd ht)
      have hql := Paired.length hqs
      have yN := (G _ ht).cols y hy
      refine ⟨_, rfl, p0, _, 1, _, rfl, rfl, SqL.of e1, atI_nat (k := 1) rfl, _, _, rfl, rfl, _, rfl, ?_⟩
      rw [dot_here _ (G t ht).name _ yN]
      refine iteT ⟨_, rfl, p0, _, 1, _, rfl, rfl, SqL.of e1, atI_nat (k := 1) rfl, ⟨_, rfl⟩, _, _, rfl, rfl, by decide, splen ht hy, fun l1 n1 => ?_⟩
      have s2 : Same H1 (upd H1 l1 (.lst ((Txt.split (spotOf t.1 y) ".").map V.str))) := Same.new (Same.refl _) n1
      have e2 : (upd H1 l1 (.lst ((Txt.split (spotOf t.1 y) ".").map V.str))) l1 = some (.lst ((Txt.split (spotOf t.1 y) ".").map V.str)) := upd_same
      rw [spot_split _ (G t ht).name _ yN] at s2 e2 ⊢
      generalize upd H1 l1 (.lst ([t.1, y].map V.str)) = H2 at s2 e2
      refine ⟨l1, _, rfl, SqL.of e2, rfl, _, _, rfl, _, _, rfl, rfl, ?_⟩
      have s02 := s1.trans s2
      refine ⟨_, rfl, p0, _, 0, _, rfl, rfl, SqL.of (s2 _ _ e1), atI_nat (k := 0) rfl, (by show 2 ≤ sizeLine; decide), fun l3 H3 n3 s3 e3 => ?_⟩
      have s03 := s02.trans s3
      refine ⟨l3, _, rfl, .inr (SqT.of e3), rfl, rfl, _, rfl, ?_⟩
      have hin : inV (.str wd) [V.str "single", V.str "filled"] = false := by
        cases c : inV (.str wd) [V.str "single", V.str "filled"] with
        | false => rfl
        | true =>
          have z := mem_inV (x := wd) (ys := ["single", "filled"]) |>.mp c
          simp only [List.mem_cons, List.not_mem_nil, or_false] at z
          exact (z.elim c1 c2).elim
      have ep3 := s3 _ _ (s2 _ _ e1)
      rw [show (if false = true then !inV (.str wd) [V.str "single", V.str "filled"] else inV (.str wd) [V.str "single", V.str "filled"]) = false from hin]
      refine iteF ?_
      refine ⟨_, rfl, _, rfl, a, t.1, tabs, t.2, rfl, hP.keep s03, h4, cols_of nd ht, fun H4 c s4 e4 => ?_⟩
      obtain ⟨i1, i2, i3, i4⟩ := index_facts hy
      refine ⟨.inl ⟨rfl, _, SqL.of e4⟩, _, rfl, c, _, .str y, t.2.idxOf y, .str y, rfl, rfl, SqL.of e4, rfl, i1, i2, i3, i4, ?_⟩
      have s04 := s03.trans s4
      have hix : t.2.idxOf y < t.2.length := List.idxOf_lt_length_of_mem hy
      refine ⟨_, rfl, _, rfl, d, .ref l, rfl, hdg _ s04, l, rfl, ⟨_, SqL.of (s04 _ _ hl)⟩, fun D hD => ?_⟩
      refine lc_grow (n := rs.length) hD (fun i acc H' => acc = (colVals (rs.take i) (t.2.idxOf y)).map V.int) (fun i acc H' o hp _ => hp) (fun _ _ => rfl)
        (fun i H' hi s1 => ⟨_, V.ref (qs[i]'(by omega)), SqL.of (s1 _ _ (s04 _ _ hl)), by rw [List.getElem?_map, List.getElem?_eq_getElem (by omega)]; rfl⟩) (fun H' s1 => ⟨_, SqL.of (s1 _ _ (s04 _ _ hl)), by rw [List.length_map]; omega⟩) (small1000 (by omega)) (fun i acc H' F G hF hG' hi s1 hacc hp v H2 yl => ?_) (fun acc H5 s5 hacc hp => ?_)
      · obtain ⟨eH, ev⟩ := yl
        subst eH
        have hiq : i < qs.length := by omega
        have ev := ev _ (SqL.of (s1 _ _ (s04 _ _ hl)))
        rw [List.getElem?_map, List.getElem?_eq_getElem hiq] at ev
        cases ev
        have hra : RowAt H qs[i] rs[i] := paired_get hqs (List.getElem?_eq_getElem hiq) (List.getElem?_eq_getElem hi)
        have hri : t.2.idxOf y < rs[i].length := by rw [r3 _ (List.getElem_mem hi)]; exact hix
        refine ⟨rfl, _, rfl, _, rfl, qs[i], _, ((t.2.idxOf y : Nat) : Int), V.int rs[i][t.2.idxOf y], rfl, rfl, SqT.of (s1 _ _ (s04 _ _ hra)), atI_nat (by rw [List.getElem?_map, List.getElem?_eq_getElem hri]; rfl), hF _ _ (Same.refl _) ?_⟩
        rw [hp, List.take_add_one, List.getElem?_eq_getElem hi]
        unfold colVals
        rw [List.map_append, List.map_append]
        show _ = _ ++ [V.int (rs[i].getD (t.2.idxOf y) 0)]
        rw [List.getD_eq_getElem?_getD, List.getElem?_eq_getElem hri]; rfl
      rw [List.take_length] at hp
      subst hp
      have s05 := s04.trans s5
      have hv : valsD tabs dat (t.1, some y) = colVals rs (t.2.idxOf y) := by
        unfold valsD rowsD
        rw [r0, cols_of nd ht]; rfl
      rw [← hv] at hacc
      have hr64 : (valsD tabs dat (t.1, some y)).length < 64 := by rw [hv]; unfold colVals; rw [List.length_map]; exact r2
      have ep5 := s5 _ _ (s4 _ _ ep3)
      refine ⟨_, rfl, p0, _, 0, _, rfl, rfl, SqL.of ep5, atI_nat (k := 0) rfl, rfl, _, rfl, ?_⟩
      rw [eqs]
      have kk : ∀ H', Same H H' → Q (.bl (if wd = ("unique" : Str) then decide ((valsD tabs dat (t.1, some y)).Nodup)
          else if wd = ("sorted" : Str) then decide ((valsD tabs dat (t.1, some y)).Pairwise (· ≤ ·))
          else (valsD tabs dat (t.1, some y)).all fun n => decide (n ∈ valsD tabs dat (f.2.2.getD (Str.empty, none))))) H' := fun H' s => by
        have z := k H' s
        unfold keepsB at z
        rw [hf1, hf2, if_neg c1, if_neg c2] at z
        exact z
      by_cases c3 : wd = ("unique" : Str)
      · rw [decide_eq_true c3]
        have z := kk H5 s05
        rw [if_pos c3] at z
        refine iteT ⟨_, rfl, D, _, rfl, .inl (SqL.of hacc), _, rfl, D, _, rfl, SqL.of hacc, by unfold scanBound; omega, rfl, ?_⟩
        have e : decide (V.int (((valsD tabs dat (t.1, some y)).map V.int).length : Nat) = V.int ((dist (valsD tabs dat (t.1, some y))).length : Nat)) = decide ((valsD tabs dat (t.1, some y)).Nodup) := by
          rw [List.length_map]
          refine decide_eq_decide.mpr ⟨fun h => (dist_len _).mp (by have z2 := V.int.inj h; omega), fun h => by rw [(dist_len _).mpr h]⟩
        have z2 : Q (.bl (decide (V.int (((valsD tabs dat (t.1, some y)).map V.int).length : Nat) = V.int ((dist (valsD tabs dat (t.1, some y))).length : Nat)))) H5 := by rw [e]; exact z
        exact z2
      rw [decide_eq_false c3]
      refine iteF ⟨_, rfl, p0, _, 0, _, rfl, rfl, SqL.of ep5, atI_nat (k := 0) rfl, rfl, _, rfl, ?_⟩
      rw [eqs]
      by_cases c4 : wd = ("sorted" : Str)
      · rw [decide_eq_true c4]
        refine iteT ⟨_, rfl, _, rfl, D, _, rfl, SqL.of hacc, hr64, fun ns' pp hperm hsrt npp => ?_⟩
        have s6 : Same H5 (upd H5 pp (.lst (ns'.map V.int))) := Same.new (Same.refl _) npp
        refine ⟨_, _, dp_ints (SqL.of (s6 _ _ hacc)), dp_ints (SqL.of upd_same), shaped_ints _, shaped_ints _, ?_⟩
        rw [eqv_ints, sorted_eq hperm hsrt]
        have z := kk _ (s05.trans s6)
        rw [if_neg c3, if_pos c4] at z
        exact z
      rw [decide_eq_false c4]
      obtain ⟨u, z0, hu, hz, rfl, hf3⟩ : ∃ u z, u ∈ tabs ∧ z ∈ u.2 ∧ rest = [("in" : Str), spotOf u.1 z] ∧ f.2.2 = some (u.1, some z) := by
        rcases hcase with h | ⟨_, _, h⟩
        · exact (h.elim c3 c4).elim
        · exact h
      refine iteF ⟨_, rfl, p0, _, 3, _, rfl, rfl, SqL.of ep5, atI_nat (k := 3) rfl, ⟨_, rfl⟩, _, _, rfl, rfl, by decide, splen hu hz, fun l6 n6 => ?_⟩
      have uN := (G _ hu).cols z0 hz
      have s6 : Same H5 (upd H5 l6 (.lst ((Txt.split (spotOf u.1 z0) ".").map V.str))) := Same.new (Same.refl _) n6
      have e6 : (upd H5 l6 (.lst ((Txt.split (spotOf u.1 z0) ".").map V.str))) l6 = some (.lst ((Txt.split (spotOf u.1 z0) ".").map V.str)) := upd_same
      rw [spot_split _ (G u hu).name _ uN] at s6 e6 ⊢
      generalize upd H5 l6 (.lst ([u.1, z0].map V.str)) = H6 at s6 e6
      refine ⟨l6, _, rfl, SqL.of e6, rfl, _, _, rfl, _, _, rfl, rfl, ?_⟩
      have s06 := s05.trans s6
      obtain ⟨l', rs', qs', r0', r1', r2', r3', hl', hqs', hdg'⟩ := dg (cols_of nd hu)
      have hql' := Paired.length hqs'
      have hix' : u.2.idxOf z0 < u.2.length := List.idxOf_lt_length_of_mem hz
      obtain ⟨i1', i2', i3', i4'⟩ := index_facts hz
      refine ⟨_, rfl, _, rfl, d, .ref l', rfl, hdg' _ s06, l', rfl, ⟨_, SqL.of (s06 _ _ hl')⟩, fun D2 hD2 => ?_⟩
      refine lc_grow (n := rs'.length) hD2 (fun i acc H' => acc = (colVals (rs'.take i) (u.2.idxOf z0)).map V.int) (fun i acc H' o hp _ => hp) (fun _ _ => rfl)
        (fun i H' hi s1 => ⟨_, V.ref (qs'[i]'(by omega)), SqL.of (s1 _ _ (s06 _ _ hl')), by rw [List.getElem?_map, List.getElem?_eq_getElem (by omega)]; rfl⟩) (fun H' s1 => ⟨_, SqL.of (s1 _ _ (s06 _ _ hl')), by rw [List.length_map]; omega⟩) (small1000 (by omega)) (fun i acc H' F G' hF hG' hi s1 hacc' hp v H2' yl => ?_) (fun acc H7 s7 hacc' hp => ?_)
      · obtain ⟨eH, ev⟩ := yl
        subst eH
        have hiq : i < qs'.length := by omega
        have ev := ev _ (SqL.of (s1 _ _ (s06 _ _ hl')))
        rw [List.getElem?_map, List.getElem?_eq_getElem hiq] at ev
        cases ev
        have hra : RowAt H qs'[i] rs'[i] := paired_get hqs' (List.getElem?_eq_getElem hiq) (List.getElem?_eq_getElem hi)
        have hri : u.2.idxOf z0 < rs'[i].length := by rw [r3' _ (List.getElem_mem hi)]; exact hix'
        refine ⟨rfl, _, rfl, _, rfl, _, rfl, a, u.1, tabs, u.2, rfl, hP.keep (s06.trans s1), h4, cols_of nd hu, fun H8 c8 s8 e8 => ?_⟩
        refine ⟨.inl ⟨rfl, _, SqL.of e8⟩, _, rfl, c8, _, .str z0, u.2.idxOf z0, .str z0, rfl, rfl, SqL.of e8, rfl, i1', i2', i3', i4', ?_⟩
        refine ⟨qs'[i], _, ((u.2.idxOf z0 : Nat) : Int), V.int rs'[i][u.2.idxOf z0], rfl, rfl, SqT.of (s8 _ _ (s1 _ _ (s06 _ _ hra))), atI_nat (by rw [List.getElem?_map, List.getElem?_eq_getElem hri]; rfl), hF _ _ s8 ?_⟩
        rw [hp, List.take_add_one, List.getElem?_eq_getElem hi]
        unfold colVals
        rw [List.map_append, List.map_append]
        show _ = _ ++ [V.int (rs'[i].getD (u.2.idxOf z0) 0)]
        rw [List.getD_eq_getElem?_getD, List.getElem?_eq_getElem hri]; rfl
      rw [List.take_length] at hp
      subst hp
      have s07 := s06.trans s7
      have hv' : valsD tabs dat (u.1, some z0) = colVals rs' (u.2.idxOf z0) := by
        unfold valsD rowsD
        rw [r0', cols_of nd hu]; rfl
      rw [← hv'] at hacc'
      rw [hf3] at kk
      have hacc7 := s7 _ _ (s6 _ _ hacc)
      refine ⟨_, rfl, D, rfl, ⟨_, SqL.of hacc7⟩, fun D3 hD3 => ?_⟩
      refine lc_grow (n := (valsD tabs dat (t.1, some y)).length) hD3 (fun i acc H' => acc.isEmpty = ((valsD tabs dat (t.1, some y)).take i).all fun n => decide (n ∈ valsD tabs dat (u.1, some z0))) (fun i acc H' o hp _ => hp) (fun _ _ => rfl)
        (fun i H' hi s1 => ⟨_, V.int ((valsD tabs dat (t.1, some y))[i]'hi), SqL.of (s1 _ _ hacc7), by rw [List.getElem?_map, List.getElem?_eq_getElem hi]; rfl⟩) (fun H' s1 => ⟨_, SqL.of (s1 _ _ hacc7), by rw [List.length_map]; exact Nat.le_refl _⟩) (small1000 (by omega)) (fun i acc H' F G' hF hG' hi s1 hacc3 hp v H2' yl => ?_) (fun acc H8 s8 hacc3 hp => ?_)
      · obtain ⟨eH, ev⟩ := yl
        subst eH
        have ev := ev _ (SqL.of (s1 _ _ hacc7))
        rw [List.getElem?_map, List.getElem?_eq_getElem hi] at ev
        cases ev
        have step : ((valsD tabs dat (t.1, some y)).take (i + 1)).all (fun n => decide (n ∈ valsD tabs dat (u.1, some z0))) = (((valsD tabs dat (t.1, some y)).take i).all (fun n => decide (n ∈ valsD tabs dat (u.1, some z0))) && decide ((valsD tabs dat (t.1, some y))[i] ∈ valsD tabs dat (u.1, some z0))) := by
          rw [List.take_add_one, List.getElem?_eq_getElem hi, List.all_append]
          simp
        refine ⟨rfl, _, rfl, _, rfl, D2, _, rfl, .inl (SqL.of (s1 _ _ hacc')), rfl, flat_ints _, _, rfl, ?_⟩
        rw [if_pos rfl, inV_int]
        by_cases c : (valsD tabs dat (t.1, some y))[i] ∈ valsD tabs dat (u.1, some z0)
        · rw [decide_eq_true c]
          refine iteF (hG' _ (Same.refl _) ?_)
          rw [step, decide_eq_true c, Bool.and_true]; exact hp
        · rw [decide_eq_false c]
          refine iteT ⟨_, rfl, hF _ _ (Same.refl _) ?_⟩
          rw [step, decide_eq_false c, Bool.and_false]
          cases acc <;> rfl
      rw [List.take_length] at hp
      refine ⟨(by show 0 ≤ sizeLine; decide), fun l9 H9 n9 s9 e9 => ?_⟩
      refine ⟨D3, l9, _, rfl, rfl, SqL.of (s9 _ _ hacc3), SqL.of e9, ?_⟩
      have z := kk H9 ((s07.trans s8).trans s9)
      rw [if_neg c3, if_neg c4] at z
      have z2 : Q (.bl acc.isEmpty) H9 := by rw [hp]; exact z
      exact z2
end
end L2.Pf
set_option maxHeartbeats 2000000
namespace L2.Pf
open PySem PySem.Spec PyProof.Rows L2.Ev L2.Tpd L2.Seti L2.Gq L2.Enf L2.Sett L2.Itr L2.Dls L2.Own L2.Dsp L2.Dcs L2.Vls L2.Ent
/-- a column as it is written -/
def sp (x : CP) : Str := spotOf x.1 x.2
def Nm (x : CP) : Prop := x.1 ∈ NAMES ∧ x.2 ∈ NAMES
theorem sp_split {x : CP} (h : Nm x) : Txt.split (sp x) "." = [x.1, x.2] := spot_split _ h.1 _ h.2
theorem sp_inj {x y : CP} (hx : Nm x) (hy : Nm y) (e : sp x = sp y) : x = y := by
  have z := sp_split hx
  rw [e, sp_split hy] at z
  injection z with z1 z2
  injection z2 with z2 _
  exact Prod.ext z1.symm z2.symm
theorem sp_nb {x : CP} (h : Nm x) : 32 ∉ TL.tl (sp x) := by
  unfold sp spotOf
  rw [TL.tl_append, TL.tl_append, dot_tl]
  simp only [List.mem_append, not_or]
  exact ⟨⟨no_blank h.1, by decide⟩, no_blank h.2⟩
theorem sp_len {x : CP} (h : Nm x) : (sp x).length ≤ 25 := by
  have z : ∀ x ∈ NAMES, ∀ y ∈ NAMES, (spotOf x y).length ≤ 25 := by decide +kernel
  exact z _ h.1 _ h.2
theorem nm_len {x : Str} (h : x ∈ NAMES) : x.length ≤ 12 := by
  have z : ∀ x ∈ NAMES, x.length ≤ 12 := by decide +kernel
  exact z x h
theorem nm_ok {x : Str} (h : x ∈ NAMES) : PyData.strOk x = true := by
  have z : ∀ x ∈ NAMES, PyData.strOk x = true := by decide +kernel
  exact z x h
/-- a column of some tables -/
def Col (tabs : Tabs) (x : CP) : Prop := ∃ t ∈ tabs, x.1 = t.1 ∧ x.2 ∈ t.2
/-- the facts that the law draws and asks -/
inductive Fct (tabs : Tabs) : Fact → Prop
  | table {t : Str × List Str} {w : Str} : t ∈ tabs → (w = ("single" : Str) ∨ w = ("filled" : Str)) → Fct tabs (w, (t.1, none), none)
  | column {x : CP} {w : Str} : Col tabs x → (w = ("unique" : Str) ∨ w = ("sorted" : Str)) → Fct tabs (w, (x.1, some x.2), none)
  | found {x y : CP} : Col tabs x → Col tabs y → Fct tabs (("found" : Str), (x.1, some x.2), some (y.1, some y.2))
def lineT (f : Fact) : Str := match f with
  | (w, (t, none), _) => w ++ " " ++ t
  | (w, (t, some c), none) => w ++ " " ++ sp (t, c)
  | (w, (t, some c), some g) => w ++ " " ++ sp (t, c) ++ " " ++ "in" ++ " " ++ sp (cpOf g)
section
variable {tabs : Tabs} (G : ∀ t ∈ tabs, GoodTab t) (nd : (tabs.map (·.1)).Nodup)
include G in
theorem Col.nm {x : CP} (h : Col tabs x) : Nm x := by
  obtain ⟨t, ht, e, hy⟩ := h
  exact ⟨by rw [e]; exact (G t ht).name, (G t ht).cols _ hy⟩
def words (f : Fact) : List Str := match f with
  | (w, (t, none), _) => [w, t]
  | (w, (t, some c), none) => [w, sp (t, c)]
  | (w, (t, some c), some g) => [w, sp (t, c), ("in" : Str), sp (cpOf g)]
include G in
theorem line_split {f : Fact} (h : Fct tabs f) : Txt.split (lineT f) " " = words f := by
  cases h with
  | @table t w ht hw =>
    have nb : 32 ∉ TL.tl w := by rcases hw with e | e <;> rw [e] <;> decide +kernel
    exact words2 rfl nb (no_blank (G _ ht).name)
  | @column x w hx hw =>
    have nb : 32 ∉ TL.tl w := by rcases hw with e | e <;> rw [e] <;> decide +kernel
    exact words2 rfl nb (sp_nb (hx.nm G))
  | found hx hy => exact words4 rfl (by decide +kernel) (sp_nb (hx.nm G)) (by decide +kernel) (sp_nb (hy.nm G))
include G nd in
theorem line_read {f : Fact} (h : Fct tabs f) : readWords tabs (Txt.split (lineT f) " ") = some f := by
  rw [line_split G h]
  cases h with
  | @table t w ht hw =>
    have hi : inV (.str w) k_OF_TABLES = true := by rcases hw with rfl | rfl <;> decide +kernel
    show readWords tabs [w, t.1] = _
    unfold readWords
    rw [if_pos ⟨rfl, hi⟩]
    show (readTable tabs t.1).map _ = _
    have z : readTable tabs t.1 = some (t.1, none) := by
      unfold readTable
      refine if_pos ?_
      have z2 : inV (.str t.1) ((tabs.map (·.1)).map V.str) = true := mem_inV.mpr (List.mem_map.mpr ⟨t, ht, rfl⟩)
      rw [List.map_map] at z2; exact z2
    rw [z]; rfl
  | @column x w hx hw =>
    obtain ⟨t, ht, e, hy⟩ := hx
    have hi : inV (.str w) k_OF_COLUMNS = true := by rcases hw with rfl | rfl <;> decide +kernel
    have hi2 : ¬ inV (.str w) k_OF_TABLES = true := by rcases hw with rfl | rfl <;> decide +kernel
    show readWords tabs [w, sp (x.1, x.2)] = _
    unfold readWords
    rw [if_neg (fun z => hi2 z.2), if_pos ⟨rfl, hi⟩]
    show (readColumn tabs (spotOf x.1 x.2)).map _ = _
    rw [e, spot_read G nd ht hy]; rfl
  | @found x y hx hy =>
    obtain ⟨t, ht, e, hy1⟩ := hx
    obtain ⟨u, hu, e2, hy2⟩ := hy
    show readWords tabs [("found" : Str), spotOf x.1 x.2, ("in" : Str), spotOf y.1 y.2] = _
    rw [rw4e, e, e2, spot_read G nd ht hy1, spot_read G nd hu hy2]; rfl
include G nd in
theorem line_inj {f g : Fact} (hf : Fct tabs f) (hg : Fct tabs g) (e : lineT f = lineT g) : f = g := by
  have z := line_read G nd hf
  rw [e, line_read G nd hg] at z
  exact (Option.some.inj z).symm
end
theorem line_len {tabs : Tabs} (G : ∀ t ∈ tabs, GoodTab t) {f : Fact} (h : Fct tabs f) : (lineT f).length ≤ 100 := by
  have cat : ∀ {x y : Str} {m n : Nat}, x.length ≤ m → y.length ≤ n → (x ++ y).length ≤ m + n := fun {x y m n} hx hy => by
    rw [TL.len_tl, TL.tl_append, List.length_append, ← TL.len_tl, ← TL.len_tl]; omega
  have b1 : (" " : Str).length ≤ 1 := by decide +kernel
  cases h with
  | @table t w ht hw =>
    have n : w.length ≤ 6 := by rcases hw with e | e <;> rw [e] <;> decide +kernel
    exact Nat.le_trans (cat (cat n b1) (nm_len (G _ ht).name)) (by decide)
  | @column x w hx hw =>
    have n : w.length ≤ 6 := by rcases hw with e | e <;> rw [e] <;> decide +kernel
    exact Nat.le_trans (cat (cat n b1) (sp_len (hx.nm G))) (by decide)
  | found hx hy =>
    have n : ("found" : Str).length ≤ 6 := by decide +kernel
    have n2 : ("in" : Str).length ≤ 2 := by decide +kernel
    exact Nat.le_trans (cat (cat (cat (cat (cat n b1) (sp_len (hx.nm G))) b1) n2 |> fun z => cat z b1) (sp_len (hy.nm G))) (by decide)
theorem cut_any {x : Str} {k : Nat} : TL.tl (cutS x none (some (k : Int))) = (TL.tl x).take k := by
  unfold cutS
  rw [TL.tl_mk, HT.sIx_none, HT.sIx_nat, List.drop_zero, Nat.sub_zero, TL.len_tl]
  by_cases h : k ≤ (TL.tl x).length
  · rw [Nat.min_eq_left h]
  · rw [Nat.min_eq_right (by omega), List.take_of_length_le (Nat.le_refl _), List.take_of_length_le (by omega)]
/-- how a line begins: its word and a blank, and so no other word -/
theorem line_head {tabs : Tabs} {f : Fact} (h : Fct tabs f) : ∃ r, TL.tl (lineT f) = TL.tl f.1 ++ 32 :: r := by
  cases h with
  | table ht hw => exact ⟨_, by show TL.tl (_ ++ " " ++ _) = _; rw [TL.tl_append, TL.tl_append, blank_tl, List.append_assoc]; rfl⟩
  | column hx hw => exact ⟨_, by show TL.tl (_ ++ " " ++ _) = _; rw [TL.tl_append, TL.tl_append, blank_tl, List.append_assoc]; rfl⟩
  | found hx hy => exact ⟨_, by show TL.tl (_ ++ " " ++ _ ++ " " ++ "in" ++ " " ++ _) = _; simp only [TL.tl_append, blank_tl, List.append_assoc, List.cons_append, List.nil_append]; rfl⟩
theorem cut_found {tabs : Tabs} {f : Fact} (h : Fct tabs f) : decide (cutS (lineT f) none (some 6) = ("found " : Str)) = decide (f.1 = ("found" : Str)) := by
  obtain ⟨r, e⟩ := line_head h
  have z : (cutS (lineT f) none (some 6) = ("found " : Str)) ↔ (TL.tl f.1 ++ 32 :: r).take 6 = TL.tl ("found " : Str) := by
    rw [← e, show (6 : Int) = ((6 : Nat) : Int) from rfl]
    exact ⟨fun z => by rw [← z, cut_any], fun z => TL.ext_tl (by rw [cut_any, z])⟩
  have w : f.1 = ("single" : Str) ∨ f.1 = ("filled" : Str) ∨ f.1 = ("unique" : Str) ∨ f.1 = ("sorted" : Str) ∨ f.1 = ("found" : Str) := by
    cases h with
    | table ht hw => exact hw.elim .inl fun z => .inr (.inl z)
    | column hx hw => exact hw.elim (fun z => .inr (.inr (.inl z))) fun z => .inr (.inr (.inr (.inl z)))
    | found hx hy => exact .inr (.inr (.inr (.inr rfl)))
  refine decide_eq_decide.mpr (z.trans ?_)
  rw [tl_29]
  rcases w with w | w | w | w | w
  · rw [w, tl_3]; exact ⟨fun z => by simp at z, fun z => absurd z (by decide +kernel)⟩
  · rw [w, tl_8]; exact ⟨fun z => by simp at z, fun z => absurd z (by decide +kernel)⟩
  · rw [w, tl_1]; exact ⟨fun z => by simp at z, fun z => absurd z (by decide +kernel)⟩
  · rw [w, tl_6]; exact ⟨fun z => by simp at z, fun z => absurd z (by decide +kernel)⟩
  · rw [w, tl_10]; exact ⟨fun _ => rfl, fun _ => by simp⟩
theorem cut_filled {tabs : Tabs} {f : Fact} (h : Fct tabs f) : decide (cutS (lineT f) none (some 7) = ("filled " : Str)) = decide (f.1 = ("filled" : Str)) := by
  obtain ⟨r, e⟩ := line_head h
  have z : (cutS (lineT f) none (some 7) = ("filled " : Str)) ↔ (TL.tl f.1 ++ 32 :: r).take 7 = TL.tl ("filled " : Str) := by
    rw [← e, show (7 : Int) = ((7 : Nat) : Int) from rfl]
    exact ⟨fun z => by rw [← z, cut_any], fun z => TL.ext_tl (by rw [cut_any, z])⟩
  have w : f.1 = ("single" : Str) ∨ f.1 = ("filled" : Str) ∨ f.1 = ("unique" : Str) ∨ f.1 = ("sorted" : Str) ∨ f.1 = ("found" : Str) := by
    cases h with
    | table ht hw => exact hw.elim .inl fun z => .inr (.inl z)
    | column hx hw => exact hw.elim (fun z => .inr (.inr (.inl z))) fun z => .inr (.inr (.inr (.inl z)))
    | found hx hy => exact .inr (.inr (.inr (.inr rfl)))
  refine decide_eq_decide.mpr (z.trans ?_)
  rw [tl_27]
  rcases w with w | w | w | w | w
  · rw [w, tl_3]; exact ⟨fun z => by simp at z, fun z => absurd z (by decide +kernel)⟩
  · rw [w, tl_8]; exact ⟨fun _ => rfl, fun _ => by simp⟩
  · rw [w, tl_1]; exact ⟨fun z => by simp at z, fun z => absurd z (by decide +kernel)⟩
  · rw [w, tl_6]; exact ⟨fun z => by simp at z, fun z => absurd z (by decide +kernel)⟩
  · rw [w, tl_10]; exact ⟨fun z => by simp at z, fun z => absurd z (by decide +kernel)⟩
/-- lines of facts, as a list of texts -/
def linesV (fs : List Fact) : List V := fs.map fun f => V.str (lineT f)
theorem line_in {tabs : Tabs} (G : ∀ t ∈ tabs, GoodTab t) (nd : (tabs.map (·.1)).Nodup) {fs : List Fact} {f : Fact} (hs : ∀ g ∈ fs, Fct tabs g) (hf : Fct tabs f) : inV (.str (lineT f)) (linesV fs) = decide (f ∈ fs) := by
  have e : linesV fs = (fs.map lineT).map V.str := by unfold linesV; rw [List.map_map]; rfl
  rw [e]
  by_cases h : f ∈ fs
  · rw [decide_eq_true h]; exact mem_inV.mpr (List.mem_map.mpr ⟨f, h, rfl⟩)
  · rw [decide_eq_false h]
    refine Bool.eq_false_iff.mpr fun z => h ?_
    obtain ⟨g, hg, eg⟩ := List.mem_map.mp (mem_inV.mp z)
    rw [← line_inj G nd (hs g hg) hf eg]; exact hg
theorem flat_lines (fs : List Fact) : (linesV fs).all flatV = true := all_strs lineT fs
end L2.Pf
set_option maxHeartbeats 2000000
namespace L2.Pf
open PySem PySem.Spec PyProof.Rows L2.Ev L2.Tpd L2.Seti L2.Gq L2.Enf L2.Sett L2.Itr L2.Dls L2.Own L2.Dsp L2.Dcs L2.Vls L2.Ent
/-! ### rounds that come to an end -/
def rounds {α : Type} (f : α → α) : Nat → α → α
  | 0, a => a
  | n + 1, a => f (rounds f n a)
theorem filter_le' {ι : Type} {p q : ι → Bool} (h : ∀ x, p x = true → q x = true) (xs : List ι) : (xs.filter p).length ≤ (xs.filter q).length := by
  induction xs with
  | nil => exact Nat.le_refl _
  | cons a r ih =>
    rw [List.filter_cons, List.filter_cons]
    cases hp : p a with
    | true => rw [h a hp]; exact Nat.succ_le_succ ih
    | false =>
      cases hq : q a with
      | true => exact Nat.le_succ_of_le ih
      | false => exact ih
theorem filter_lt' {ι : Type} {p q : ι → Bool} (h : ∀ x, p x = true → q x = true) {xs : List ι} {x : ι} (hx : x ∈ xs) (h1 : p x = false) (h2 : q x = true) : (xs.filter p).length < (xs.filter q).length := by
  induction xs with
  | nil => cases hx
  | cons a r ih =>
    rw [List.filter_cons, List.filter_cons]
    rcases List.mem_cons.mp hx with e | hr
    · subst e
      rw [h1, h2]
      exact Nat.lt_succ_of_le (filter_le' h r)
    · have z := ih hr
      cases hp : p a with
      | true => rw [h a hp]; exact Nat.succ_lt_succ z
      | false =>
        cases hq : q a with
        | true => exact Nat.lt_succ_of_lt z
        | false => exact z
section
variable {σ ι β : Type} (mem : β → σ → Prop) (xs : List ι) (trig fired : ι → σ → Prop)
def Shut (S : σ) : Prop := ∀ x ∈ xs, trig x S → fired x S
theorem clo_rounds (R : σ → σ) (fm : ∀ x S S', (∀ y, mem y S → mem y S') → fired x S → fired x S') (tm : ∀ x S S', (∀ y, mem y S → mem y S') → trig x S → trig x S')
    (h1 : ∀ S y, mem y S → mem y (R S)) (h2 : ∀ S x, x ∈ xs → trig x S → fired x (R S)) (h3 : ∀ S, Shut xs trig fired S → ∀ y, mem y (R S) → mem y S) {n : Nat} (hn : xs.length ≤ n) (S : σ) : Shut xs trig fired (rounds R n S) := by
  classical
  have key : ∀ k, Shut xs trig fired (rounds R k S) ∨ (xs.filter fun x => decide (¬ fired x (rounds R k S))).length + k ≤ xs.length := by
    intro k
    induction k with
    | zero => exact .inr (List.length_filter_le _ _)
    | succ k ih =>
      by_cases hc : Shut xs trig fired (rounds R k S)
      · refine .inl fun x hx ht => ?_
        exact fm x _ _ (h1 _) (hc x hx (tm x _ _ (h3 _ hc) ht))
      · have ih := ih.resolve_left hc
        refine .inr ?_
        obtain ⟨x, hx⟩ := Classical.not_forall.mp hc
        obtain ⟨hm, hx⟩ := Classical.not_imp.mp hx
        obtain ⟨ht, hf⟩ := Classical.not_imp.mp hx
        have z := filter_lt' (p := fun x => decide (¬ fired x (rounds R (k + 1) S))) (q := fun x => decide (¬ fired x (rounds R k S))) (fun y hy => by
          have hy := of_decide_eq_true hy
          exact decide_eq_true fun z => hy (fm y _ _ (h1 _) z)) hm (decide_eq_false fun z => z (h2 _ x hm ht)) (decide_eq_true hf)
        omega
  rcases key n with h | h
  · exact h
  · have z : (xs.filter fun x => decide (¬ fired x (rounds R n S))).length = 0 := by omega
    have z2 := List.filter_eq_nil_iff.mp (List.length_eq_zero_iff.mp z)
    intro x hx _
    have z3 := z2 x hx
    exact Classical.not_not.mp fun hf => z3 (decide_eq_true hf)
end
theorem rounds_ind {α : Type} {f : α → α} {Pr : α → Prop} (h : ∀ a, Pr a → Pr (f a)) : ∀ (n : Nat) (a : α), Pr a → Pr (rounds f n a)
  | 0, _, p => p
  | n + 1, a, p => h _ (rounds_ind h n a p)
/-- a fold whose steps fire -/
theorem fold_all {σ ι β : Type} {mem : β → σ → Prop} {trig fired : ι → σ → Prop} {step : σ → ι → σ} (fm : ∀ x S S', (∀ y, mem y S → mem y S') → fired x S → fired x S') (tm : ∀ x S S', (∀ y, mem y S → mem y S') → trig x S → trig x S')
    (m : ∀ S x y, mem y S → mem y (step S x)) (hs : ∀ S x, trig x S → fired x (step S x)) : ∀ (xs : List ι) (S : σ), (∀ y, mem y S → mem y (xs.foldl step S)) ∧ ∀ x ∈ xs, trig x S → fired x (xs.foldl step S)
  | [], S => ⟨fun y h => h, fun x h => by cases h⟩
  | a :: r, S => by
    obtain ⟨i1, i2⟩ := fold_all fm tm m hs r (step S a)
    refine ⟨fun y h => i1 y (m S a y h), fun x hx ht => ?_⟩
    rcases List.mem_cons.mp hx with e | hx
    · subst e
      exact fm x _ _ i1 (hs S x ht)
    · exact i2 x hx (tm x _ _ (m S a) ht)
/-- a fold that has nothing to fire -/
theorem fold_none {σ ι β : Type} {mem : β → σ → Prop} {trig fired : ι → σ → Prop} {step : σ → ι → σ} (fm : ∀ x S S', (∀ y, mem y S → mem y S') → fired x S → fired x S') (tm : ∀ x S S', (∀ y, mem y S → mem y S') → trig x S → trig x S')
    (m : ∀ S x y, mem y S → mem y (step S x)) (hn : ∀ S x, (trig x S → fired x S) → ∀ y, mem y (step S x) → mem y S) : ∀ (xs : List ι) (S : σ), Shut xs trig fired S → ∀ y, mem y (xs.foldl step S) → mem y S
  | [], S, _, y, h => h
  | a :: r, S, hc, y, h => by
    have e := hn S a (hc a List.mem_cons_self)
    refine e y (fold_none fm tm m hn r (step S a) (fun x hx ht => ?_) y h)
    exact fm x _ _ (m S a) (hc x (List.mem_cons_of_mem _ hx) (tm x _ _ e ht))
theorem fold_ind {σ ι : Type} {step : σ → ι → σ} {Pr : σ → Prop} : ∀ (xs : List ι) (S : σ), (∀ S x, x ∈ xs → Pr S → Pr (step S x)) → Pr S → Pr (xs.foldl step S)
  | [], _, _, p => p
  | a :: r, S, h, p => fold_ind r (step S a) (fun S x hx => h S x (List.mem_cons_of_mem _ hx)) (h S a List.mem_cons_self p)
/-! ### the tables that have rows if a table has -/
def linkS (f : Fact) : Option (Str × Str) := (linkC f).map fun p => (p.1.1, p.2.1)
theorem tabL_mem {fs : List Fact} {p : Str × Str} : p ∈ tabL fs ↔ ∃ f ∈ fs, linkS f = some p := by
  unfold tabL colL linkS
  rw [List.mem_map]
  constructor
  · rintro ⟨q, hq, rfl⟩
    obtain ⟨f, hf, e⟩ := List.mem_filterMap.mp hq
    exact ⟨f, hf, by rw [e]; rfl⟩
  · rintro ⟨f, hf, e⟩
    obtain ⟨q, e1, rfl⟩ := Option.map_eq_some_iff.mp e
    exact ⟨q, List.mem_filterMap.mpr ⟨f, hf, e1⟩, rfl⟩
def addIf (c : Bool) (S : List α) (y : α) : List α := if c = true then S ++ [y] else S
theorem addIf_mem {α : Type} {c : Bool} {S : List α} {y z : α} : z ∈ addIf c S y ↔ z ∈ S ∨ (c = true ∧ z = y) := by
  unfold addIf
  cases c with
  | true => rw [if_pos rfl, List.mem_append, List.mem_singleton]; simp
  | false => rw [if_neg (by decide)]; simp
def ledStep (S : List Str) (f : Fact) : List Str := match linkS f with
  | some p => addIf (decide (p.1 ∈ S ∧ p.2 ∉ S)) S p.2
  | none => S
def led (fs : List Fact) (t : Str) : List Str := rounds (fun S => fs.foldl ledStep S) fs.length [t]
def ledTrig (f : Fact) (S : List Str) : Prop := ∃ p, linkS f = some p ∧ p.1 ∈ S
def ledFired (f : Fact) (S : List Str) : Prop := ∃ p, linkS f = some p ∧ p.2 ∈ S
theorem led_mem {fs : List Fact} {t y : Str} : y ∈ led fs t ↔ Reach (tabL fs) t y := by
  have fm : ∀ (f : Fact) (S S' : List Str), (∀ y, y ∈ S → y ∈ S') → ledFired f S → ledFired f S' := fun f S S' k ⟨p, e, h⟩ => ⟨p, e, k _ h⟩
  have tm : ∀ (f : Fact) (S S' : List Str), (∀ y, y ∈ S → y ∈ S') → ledTrig f S → ledTrig f S' := fun f S S' k ⟨p, e, h⟩ => ⟨p, e, k _ h⟩
  have m : ∀ (S : List Str) (f : Fact) y, y ∈ S → y ∈ ledStep S f := fun S f y h => by
    unfold ledStep
    split
    · exact addIf_mem.mpr (.inl h)
    · exact h
  have hs : ∀ (S : List Str) (f : Fact), ledTrig f S → ledFired f (ledStep S f) := fun S f ⟨p, e, h⟩ => by
    refine ⟨p, e, ?_⟩
    unfold ledStep
    rw [e]
    by_cases h2 : p.2 ∈ S
    · exact addIf_mem.mpr (.inl h2)
    · exact addIf_mem.mpr (.inr ⟨decide_eq_true ⟨h, h2⟩, rfl⟩)
  have hn : ∀ (S : List Str) (f : Fact), (ledTrig f S → ledFired f S) → ∀ y, y ∈ ledStep S f → y ∈ S := fun S f k y h => by
    unfold ledStep at h
    split at h
    · rename_i p e
      rcases addIf_mem.mp h with h | ⟨c, h⟩
      · exact h
      · obtain ⟨c1, c2⟩ := of_decide_eq_true c
        obtain ⟨q, e2, h2⟩ := k ⟨p, e, c1⟩
        rw [e] at e2
        cases e2
        exact absurd h2 c2
    · exact h
  have shut : Shut fs ledTrig ledFired (led fs t) := clo_rounds (fun y S => y ∈ S) fs ledTrig ledFired _ fm tm (fun S => (fold_all fm tm m hs fs S).1) (fun S => (fold_all fm tm m hs fs S).2) (fun S => fold_none fm tm m hn fs S) (Nat.le_refl _) _
  constructor
  · intro h
    refine (rounds_ind (Pr := fun S : List Str => ∀ y ∈ S, Reach (tabL fs) t y) (fun S hS => fold_ind (Pr := fun S : List Str => ∀ y ∈ S, Reach (tabL fs) t y) fs S (fun S f hf hS y hy => ?_) hS) fs.length [t] fun y hy => by rw [List.mem_singleton.mp hy]; exact .here) y h
    unfold ledStep at hy
    split at hy
    · rename_i p e
      rcases addIf_mem.mp hy with hy | ⟨c, hy⟩
      · exact hS y hy
      · rw [hy]
        exact .step (hS _ (of_decide_eq_true c).1) (tabL_mem.mpr ⟨f, hf, e⟩)
    · exact hS y hy
  · intro r
    induction r with
    | here => exact rounds_ind (Pr := fun S : List Str => t ∈ S) (fun S h => (fold_all fm tm m hs fs S).1 _ h) _ _ (List.mem_singleton_self _)
    | step _ hm ih =>
      obtain ⟨f, hf, e⟩ := tabL_mem.mp hm
      obtain ⟨q, e2, h2⟩ := shut f hf ⟨_, e, ih⟩
      rw [e] at e2
      cases e2
      exact h2
theorem addIf_len {α : Type} {c : Bool} {S : List α} {y : α} : (addIf c S y).length ≤ S.length + 1 := by
  unfold addIf
  split
  · rw [List.length_append]; exact Nat.le_refl _
  · exact Nat.le_succ _
def filledM (fs gs : List Fact) : List Str := gs.foldl (fun S f => if f.1 = ("filled" : Str) then S ++ led fs f.2.1.1 else S) []
theorem filledM_mem {fs : List Fact} {t : Str} : t ∈ filledM fs fs ↔ Filled fs t := by
  have key : ∀ (gs : List Fact) (S : List Str), t ∈ gs.foldl (fun S f => if f.1 = ("filled" : Str) then S ++ led fs f.2.1.1 else S) S ↔ t ∈ S ∨ ∃ f ∈ gs, f.1 = ("filled" : Str) ∧ t ∈ led fs f.2.1.1 := by
    intro gs
    induction gs with
    | nil => intro S; simp
    | cons a r ih =>
      intro S
      rw [List.foldl_cons, ih]
      by_cases c : a.1 = ("filled" : Str)
      · rw [if_pos c, List.mem_append]
        constructor
        · rintro ((h | h) | ⟨f, hf, h⟩)
          · exact .inl h
          · exact .inr ⟨a, List.mem_cons_self, c, h⟩
          · exact .inr ⟨f, List.mem_cons_of_mem _ hf, h⟩
        · rintro (h | ⟨f, hf, h⟩)
          · exact .inl (.inl h)
          · rcases List.mem_cons.mp hf with e | hf
            · subst e; exact .inl (.inr h.2)
            · exact .inr ⟨f, hf, h⟩
      · rw [if_neg c]
        refine ⟨fun z => z.imp id fun ⟨f, hf, h⟩ => ⟨f, List.mem_cons_of_mem _ hf, h⟩, fun z => z.imp id fun ⟨f, hf, h⟩ => ?_⟩
        rcases List.mem_cons.mp hf with e | hf
        · subst e; exact absurd h.1 c
        · exact ⟨f, hf, h⟩
  unfold filledM
  rw [key]
  constructor
  · rintro (h | ⟨f, hf, h1, h2⟩)
    · cases h
    · exact ⟨f, hf, h1, led_mem.mp h2⟩
  · rintro ⟨f, hf, h1, h2⟩
    exact .inr ⟨f, hf, h1, led_mem.mpr h2⟩
/-! ### the tables with one row at most, the columns with one value at most -/
def singF (t : Str) : Fact := (("single" : Str), (t, none), none)
def uniqF (x : CP) : Fact := (("unique" : Str), (x.1, some x.2), none)
def ownC (t : Str × List Str) : List CP := t.2.map fun y => (t.1, y)
def sharp (fs : List Fact) (s : List CP) (t : Str × List Str) : List CP := (ownC t).filter fun x => decide (x ∈ s ∧ uniqF x ∈ fs)
abbrev OS := List Str × List CP
def fixTab (fs : List Fact) (S : OS) (t : Str × List Str) : OS :=
  let o := addIf (decide (singF t.1 ∈ fs ∨ sharp fs S.2 t ≠ [])) S.1 t.1
  (o, if t.1 ∈ o then S.2 ++ ownC t else S.2)
def fixLinks (fs : List Fact) (S : OS) : OS := (S.1, S.2 ++ ((colL fs).filter fun p => decide (p.2 ∈ S.2)).map (·.1))
def fixRound (tabs : Tabs) (fs : List Fact) (S : OS) : OS := fixLinks fs (tabs.foldl (fixTab fs) S)
def fixedM (tabs : Tabs) (fs : List Fact) : OS := rounds (fixRound tabs fs) 16 ([], [])
def memOS (y : Str ⊕ CP) (S : OS) : Prop := match y with
  | .inl t => t ∈ S.1
  | .inr x => x ∈ S.2
def tabTrig (fs : List Fact) (t : Str × List Str) (S : OS) : Prop := singF t.1 ∈ fs ∨ (∃ x ∈ ownC t, x ∈ S.2 ∧ uniqF x ∈ fs) ∨ t.1 ∈ S.1
def tabFired (t : Str × List Str) (S : OS) : Prop := t.1 ∈ S.1 ∧ ∀ x ∈ ownC t, x ∈ S.2
theorem sharp_ne {fs : List Fact} {s : List CP} {t : Str × List Str} : sharp fs s t ≠ [] ↔ ∃ x ∈ ownC t, x ∈ s ∧ uniqF x ∈ fs := by
  unfold sharp
  rw [Ne, List.filter_eq_nil_iff]
  constructor
  · intro h
    obtain ⟨x, hx⟩ := Classical.not_forall.mp h
    obtain ⟨hm, hx⟩ := Classical.not_imp.mp hx
    exact ⟨x, hm, of_decide_eq_true (Classical.not_not.mp hx)⟩
  · rintro ⟨x, hm, hx⟩ h
    exact h x hm (decide_eq_true hx)
theorem fixTab_o {fs : List Fact} {S : OS} {t : Str × List Str} {z : Str} : z ∈ (fixTab fs S t).1 ↔ z ∈ S.1 ∨ ((singF t.1 ∈ fs ∨ ∃ x ∈ ownC t, x ∈ S.2 ∧ uniqF x ∈ fs) ∧ z = t.1) := by
  show z ∈ addIf _ _ _ ↔ _
  rw [addIf_mem, decide_eq_true_iff, sharp_ne]
theorem fixTab_s {fs : List Fact} {S : OS} {t : Str × List Str} {z : CP} : z ∈ (fixTab fs S t).2 ↔ z ∈ S.2 ∨ (t.1 ∈ (fixTab fs S t).1 ∧ z ∈ ownC t) := by
  show z ∈ (if t.1 ∈ (fixTab fs S t).1 then S.2 ++ ownC t else S.2) ↔ _
  split
  · rename_i c
    rw [List.mem_append]
    exact ⟨fun h => h.imp id fun h => ⟨c, h⟩, fun h => h.imp id (·.2)⟩
  · rename_i c
    exact ⟨.inl, fun h => h.elim id fun h => absurd h.1 c⟩
theorem fixLinks_s {fs : List Fact} {S : OS} {z : CP} : z ∈ (fixLinks fs S).2 ↔ z ∈ S.2 ∨ ∃ y, (z, y) ∈ colL fs ∧ y ∈ S.2 := by
  show z ∈ S.2 ++ _ ↔ _
  rw [List.mem_append, List.mem_map]
  refine ⟨fun h => h.imp id fun ⟨p, hp, e⟩ => ?_, fun h => h.imp id fun ⟨y, h1, h2⟩ => ⟨(z, y), List.mem_filter.mpr ⟨h1, decide_eq_true h2⟩, rfl⟩⟩
  obtain ⟨h1, h2⟩ := List.mem_filter.mp hp
  subst e
  exact ⟨p.2, h1, of_decide_eq_true h2⟩
abbrev Rule := (Str × List Str) ⊕ (CP × CP)
def fTrig (fs : List Fact) (r : Rule) (S : OS) : Prop := match r with
  | .inl t => tabTrig fs t S
  | .inr p => p.2 ∈ S.2
def fFired (r : Rule) (S : OS) : Prop := match r with
  | .inl t => tabFired t S
  | .inr p => p.1 ∈ S.2
theorem col_ok {tabs : Tabs} {fs : List Fact} (h : ∀ f ∈ fs, Fct tabs f) {p : CP × CP} (hp : p ∈ colL fs) : Col tabs p.1 ∧ Col tabs p.2 := by
  obtain ⟨f, hf, e⟩ := List.mem_filterMap.mp hp
  have ne : ∀ {a b c : Str}, a = b → b ≠ c → a ≠ c := fun e n z => n (by rw [← e, z])
  unfold linkC at e
  cases h f hf with
  | table ht hw =>
    rw [if_neg (show ¬ _ = ("found" : Str) from hw.elim (fun z => ne z (by decide +kernel)) fun z => ne z (by decide +kernel))] at e
    cases e
  | column hx hw =>
    rw [if_neg (show ¬ _ = ("found" : Str) from hw.elim (fun z => ne z (by decide +kernel)) fun z => ne z (by decide +kernel))] at e
    cases e
  | found hx hy =>
    rw [if_pos rfl] at e
    cases e
    exact ⟨hx, hy⟩
theorem fixed_mem {tabs : Tabs} {fs : List Fact} (hF : ∀ f ∈ fs, Fct tabs f) (h4 : tabs.length ≤ 4) (h6 : fs.length ≤ 12) : (∀ t, t ∈ (fixedM tabs fs).1 ↔ Lone fs t) ∧ ∀ x, x ∈ (fixedM tabs fs).2 ↔ Col tabs x ∧ Const fs x := by
  have fmT : ∀ (t : Str × List Str) (S S' : OS), (∀ y, memOS y S → memOS y S') → tabFired t S → tabFired t S' := fun t S S' k h => ⟨k (.inl _) h.1, fun x hx => k (.inr _) (h.2 x hx)⟩
  have tmT : ∀ (t : Str × List Str) (S S' : OS), (∀ y, memOS y S → memOS y S') → tabTrig fs t S → tabTrig fs t S' := fun t S S' k h => h.imp id fun h => h.imp (fun ⟨x, h1, h2, h3⟩ => ⟨x, h1, k (.inr _) h2, h3⟩) fun h => k (.inl _) h
  have m : ∀ (S : OS) (t : Str × List Str) y, memOS y S → memOS y (fixTab fs S t) := fun S t y h => by
    cases y with
    | inl z => exact fixTab_o.mpr (.inl h)
    | inr z => exact fixTab_s.mpr (.inl h)
  have hs : ∀ (S : OS) (t : Str × List Str), tabTrig fs t S → tabFired t (fixTab fs S t) := fun S t h => by
    have z : t.1 ∈ (fixTab fs S t).1 := by
      rcases h with h | h | h
      · exact fixTab_o.mpr (.inr ⟨.inl h, rfl⟩)
      · exact fixTab_o.mpr (.inr ⟨.inr h, rfl⟩)
      · exact fixTab_o.mpr (.inl h)
    exact ⟨z, fun x hx => fixTab_s.mpr (.inr ⟨z, hx⟩)⟩
  have hn : ∀ (S : OS) (t : Str × List Str), (tabTrig fs t S → tabFired t S) → ∀ y, memOS y (fixTab fs S t) → memOS y S := fun S t k y h => by
    have tr : t.1 ∈ (fixTab fs S t).1 → tabTrig fs t S := fun h => by
      rcases fixTab_o.mp h with h | ⟨h, _⟩
      · exact .inr (.inr h)
      · exact h.imp id .inl
    cases y with
    | inl z =>
      rcases fixTab_o.mp h with h | ⟨h, e⟩
      · exact h
      · have q := (k (h.imp id .inl)).1
        show z ∈ S.1
        rw [e]; exact q
    | inr z =>
      rcases fixTab_s.mp h with h | ⟨h, e⟩
      · exact h
      · exact (k (tr h)).2 z e
  have lm : ∀ (S : OS) y, memOS y S → memOS y (fixLinks fs S) := fun S y h => by
    cases y with
    | inl z => exact h
    | inr z => exact fixLinks_s.mpr (.inl h)
  have fm : ∀ (r : Rule) (S S' : OS), (∀ y, memOS y S → memOS y S') → fFired r S → fFired r S' := fun r S S' k h => by
    cases r with
    | inl t => exact fmT t S S' k h
    | inr p => exact k (.inr _) h
  have tm : ∀ (r : Rule) (S S' : OS), (∀ y, memOS y S → memOS y S') → fTrig fs r S → fTrig fs r S' := fun r S S' k h => by
    cases r with
    | inl t => exact tmT t S S' k h
    | inr p => exact k (.inr _) h
  have shut : Shut (tabs.map Sum.inl ++ (colL fs).map Sum.inr) (fTrig fs) fFired (fixedM tabs fs) := by
    refine clo_rounds memOS _ (fTrig fs) fFired _ fm tm (fun S y h => lm _ y ((fold_all fmT tmT m hs tabs S).1 y h)) (fun S r hr ht => ?_) (fun S hc y h => ?_) ?_ _
    · rcases List.mem_append.mp hr with hr | hr
      · obtain ⟨t, h, rfl⟩ := List.mem_map.mp hr
        exact fm (.inl t) _ _ (lm _) ((fold_all fmT tmT m hs tabs S).2 t h ht)
      · obtain ⟨p, h, rfl⟩ := List.mem_map.mp hr
        exact fixLinks_s.mpr (.inr ⟨p.2, h, (fold_all fmT tmT m hs tabs S).1 (.inr _) ht⟩)
    · have e := fold_none fmT tmT m hn tabs S fun t h ht => hc (.inl t) (List.mem_append_left _ (List.mem_map.mpr ⟨t, h, rfl⟩)) ht
      cases y with
      | inl z => exact e (.inl z) h
      | inr z =>
        rcases fixLinks_s.mp h with h | ⟨y, h1, h2⟩
        · exact e (.inr z) h
        · exact hc (.inr (z, y)) (List.mem_append_right _ (List.mem_map.mpr ⟨_, h1, rfl⟩)) (e (.inr y) h2)
    · rw [List.length_append, List.length_map, List.length_map]
      have z := colL_len fs
      omega
  have sound : (∀ t ∈ (fixedM tabs fs).1, Lone fs t) ∧ ∀ x ∈ (fixedM tabs fs).2, Col tabs x ∧ Const fs x := by
    refine rounds_ind (Pr := fun S : OS => (∀ t ∈ S.1, Lone fs t) ∧ ∀ x ∈ S.2, Col tabs x ∧ Const fs x) (fun S hS => ?_) 16 ([], []) ⟨fun t h => (by cases h), fun x h => (by cases h)⟩
    have hT := fold_ind (Pr := fun S : OS => (∀ t ∈ S.1, Lone fs t) ∧ ∀ x ∈ S.2, Col tabs x ∧ Const fs x) (step := fixTab fs) tabs S (fun S t ht hS => ?_) hS
    · refine ⟨hT.1, fun x hx => ?_⟩
      rcases fixLinks_s.mp hx with h | ⟨y, h1, h2⟩
      · exact hT.2 x h
      · obtain ⟨_, z, r, l⟩ := hT.2 y h2
        exact ⟨(col_ok hF h1).1, z, RG.trans (.step .here h1) r, l⟩
    · have ho : ∀ z ∈ (fixTab fs S t).1, Lone fs z := fun z hz => by
        rcases fixTab_o.mp hz with h | ⟨h, e⟩
        · exact hS.1 z h
        · rw [e]
          rcases h with h | ⟨x, hx, h1, h2⟩
          · exact Lone.single (f := singF t.1) h rfl
          · obtain ⟨_, y, r, l⟩ := hS.2 x h1
            obtain ⟨c, _, rfl⟩ := List.mem_map.mp hx
            exact Lone.uniq (f := uniqF (t.1, c)) h2 rfl r l
      refine ⟨ho, fun x hx => ?_⟩
      rcases fixTab_s.mp hx with h | ⟨h, e⟩
      · exact hS.2 x h
      · obtain ⟨c, hc, rfl⟩ := List.mem_map.mp e
        exact ⟨⟨t, ht, rfl, hc⟩, _, .here, ho _ h⟩
  have own : ∀ {x : CP}, Col tabs x → x.1 ∈ (fixedM tabs fs).1 → x ∈ (fixedM tabs fs).2 := fun {x} ⟨t, ht, e, hx⟩ h => by
    have z := shut (.inl t) (List.mem_append_left _ (List.mem_map.mpr ⟨t, ht, rfl⟩)) (.inr (.inr (by rw [← e]; exact h)))
    exact z.2 x (List.mem_map.mpr ⟨x.2, hx, by rw [← e]⟩)
  have back : ∀ {x y : CP}, RG (colL fs) x y → y ∈ (fixedM tabs fs).2 → x ∈ (fixedM tabs fs).2 := fun {x y} r => by
    induction r with
    | here => exact id
    | step _ hm ih => exact fun h => ih (shut (.inr (_, _)) (List.mem_append_right _ (List.mem_map.mpr ⟨_, hm, rfl⟩)) h)
  have colR : ∀ {x y : CP}, RG (colL fs) x y → Col tabs x → Col tabs y := fun {x y} r h => by
    induction r with
    | here => exact h
    | step _ hm _ => exact (col_ok hF hm).2
  have one : ∀ t, Lone fs t → t ∈ (fixedM tabs fs).1 := fun t h => by
    induction h with
    | @single f hf e =>
      cases hF f hf with
      | @table t w ht hw =>
        have e : w = ("single" : Str) := e
        subst e
        exact (shut (.inl t) (List.mem_append_left _ (List.mem_map.mpr ⟨t, ht, rfl⟩)) (.inl hf)).1
      | @column x w hx hw => exact absurd (show w = ("single" : Str) from e) (by rcases hw with rfl | rfl <;> decide +kernel)
      | found hx hy => exact absurd (show ("found" : Str) = ("single" : Str) from e) (by decide +kernel)
    | @uniq f y hf e r l ih =>
      cases hF f hf with
      | @table t w ht hw => exact absurd (show w = ("unique" : Str) from e) (by rcases hw with rfl | rfl <;> decide +kernel)
      | @column x w hx hw =>
        have e : w = ("unique" : Str) := e
        subst e
        have hy := own (colR r hx) ih
        have hxs : x ∈ (fixedM tabs fs).2 := back r hy
        obtain ⟨t, ht, e1, hx2⟩ := hx
        have z := shut (.inl t) (List.mem_append_left _ (List.mem_map.mpr ⟨t, ht, rfl⟩)) (.inr (.inl ⟨x, List.mem_map.mpr ⟨x.2, hx2, by rw [← e1]⟩, hxs, hf⟩))
        show x.1 ∈ _
        rw [e1]; exact z.1
      | found hx hy => exact absurd (show ("found" : Str) = ("unique" : Str) from e) (by decide +kernel)
  exact ⟨fun t => ⟨sound.1 t, one t⟩, fun x => ⟨sound.2 x, fun ⟨hc, y, r, l⟩ => back r (own (colR r hc) (one _ l))⟩⟩
end L2.Pf
set_option maxHeartbeats 2000000
namespace L2.Pf
open PySem PySem.Spec PyProof.Rows L2.Ev L2.Tpd L2.Seti L2.Gq L2.Enf L2.Sett L2.Itr L2.Dls L2.Own L2.Dsp L2.Dcs L2.Vls L2.Ent
/-! ### the columns that have the value of a column -/
def okLink (s : List CP) (th : List Str) (p : CP × CP) : Prop := p.2 ∈ s ∧ p.1.1 ∈ th ∧ p.2.1 ∈ th
instance (s : List CP) (th : List Str) (p : CP × CP) : Decidable (okLink s th p) := by unfold okLink; infer_instance
def sameOne (S : List CP) (p : CP × CP) : List CP := addIf (decide (p.1 ∈ S ∧ p.2 ∉ S)) S p.2
def sameTwo (S : List CP) (p : CP × CP) : List CP := addIf (decide (p.2 ∈ S ∧ p.1 ∉ S)) S p.1
def sameStep (s : List CP) (th : List Str) (S : List CP) (p : CP × CP) : List CP := if okLink s th p then sameTwo (sameOne S p) p else S
def sameM (fs : List Fact) (s : List CP) (th : List Str) (x : CP) : List CP := rounds (fun S => (colL fs).foldl (sameStep s th) S) fs.length [x]
inductive Sym (L : CL) (ok : CP × CP → Prop) (x : CP) : CP → Prop
  | here : Sym L ok x x
  | fwd {y z : CP} : Sym L ok x y → (y, z) ∈ L → ok (y, z) → Sym L ok x z
  | bwd {y z : CP} : Sym L ok x z → (y, z) ∈ L → ok (y, z) → Sym L ok x y
theorem sameOne_mem {S : List CP} {p : CP × CP} {z : CP} : z ∈ sameOne S p ↔ z ∈ S ∨ (p.1 ∈ S ∧ z = p.2) := by
  unfold sameOne
  rw [addIf_mem, decide_eq_true_iff]
  refine ⟨fun h => h.imp id fun h => ⟨h.1.1, h.2⟩, fun h => ?_⟩
  rcases h with h | ⟨h1, h2⟩
  · exact .inl h
  · by_cases c : p.2 ∈ S
    · exact .inl (by rw [h2]; exact c)
    · exact .inr ⟨⟨h1, c⟩, h2⟩
theorem sameTwo_mem {S : List CP} {p : CP × CP} {z : CP} : z ∈ sameTwo S p ↔ z ∈ S ∨ (p.2 ∈ S ∧ z = p.1) := by
  unfold sameTwo
  rw [addIf_mem, decide_eq_true_iff]
  refine ⟨fun h => h.imp id fun h => ⟨h.1.1, h.2⟩, fun h => ?_⟩
  rcases h with h | ⟨h1, h2⟩
  · exact .inl h
  · by_cases c : p.1 ∈ S
    · exact .inl (by rw [h2]; exact c)
    · exact .inr ⟨⟨h1, c⟩, h2⟩
theorem same_mem {fs : List Fact} {s : List CP} {th : List Str} {x y : CP} : y ∈ sameM fs s th x ↔ Sym (colL fs) (okLink s th) x y := by
  have fm : ∀ (p : CP × CP) (S S' : List CP), (∀ y, y ∈ S → y ∈ S') → (p.1 ∈ S ∧ p.2 ∈ S) → (p.1 ∈ S' ∧ p.2 ∈ S') := fun p S S' k h => ⟨k _ h.1, k _ h.2⟩
  have tm : ∀ (p : CP × CP) (S S' : List CP), (∀ y, y ∈ S → y ∈ S') → (okLink s th p ∧ (p.1 ∈ S ∨ p.2 ∈ S)) → (okLink s th p ∧ (p.1 ∈ S' ∨ p.2 ∈ S')) := fun p S S' k h => ⟨h.1, h.2.imp (k _) (k _)⟩
  have m : ∀ (S : List CP) (p : CP × CP) y, y ∈ S → y ∈ sameStep s th S p := fun S p y h => by
    unfold sameStep
    split
    · exact sameTwo_mem.mpr (.inl (sameOne_mem.mpr (.inl h)))
    · exact h
  have hs : ∀ (S : List CP) (p : CP × CP), (okLink s th p ∧ (p.1 ∈ S ∨ p.2 ∈ S)) → (p.1 ∈ sameStep s th S p ∧ p.2 ∈ sameStep s th S p) := fun S p ⟨ok, h⟩ => by
    unfold sameStep
    rw [if_pos ok]
    rcases h with h | h
    · exact ⟨sameTwo_mem.mpr (.inl (sameOne_mem.mpr (.inl h))), sameTwo_mem.mpr (.inl (sameOne_mem.mpr (.inr ⟨h, rfl⟩)))⟩
    · have z : p.2 ∈ sameOne S p := sameOne_mem.mpr (.inl h)
      exact ⟨sameTwo_mem.mpr (.inr ⟨z, rfl⟩), sameTwo_mem.mpr (.inl z)⟩
  have hn : ∀ (S : List CP) (p : CP × CP), ((okLink s th p ∧ (p.1 ∈ S ∨ p.2 ∈ S)) → (p.1 ∈ S ∧ p.2 ∈ S)) → ∀ y, y ∈ sameStep s th S p → y ∈ S := fun S p k y h => by
    unfold sameStep at h
    split at h
    · rename_i ok
      rcases sameTwo_mem.mp h with h | ⟨h1, h2⟩
      · rcases sameOne_mem.mp h with h | ⟨h1, h2⟩
        · exact h
        · rw [h2]; exact (k ⟨ok, .inl h1⟩).2
      · rcases sameOne_mem.mp h1 with h1 | ⟨h1, _⟩
        · rw [h2]; exact (k ⟨ok, .inr h1⟩).1
        · rw [h2]; exact h1
    · exact h
  have shut := clo_rounds (fun y (S : List CP) => y ∈ S) (colL fs) (fun p S => okLink s th p ∧ (p.1 ∈ S ∨ p.2 ∈ S)) (fun p S => p.1 ∈ S ∧ p.2 ∈ S) (fun S => (colL fs).foldl (sameStep s th) S) fm tm (fun S => (fold_all fm tm m hs (colL fs) S).1) (fun S => (fold_all fm tm m hs (colL fs) S).2) (fun S => fold_none fm tm m hn (colL fs) S) (colL_len fs) [x]
  constructor
  · intro h
    refine (rounds_ind (Pr := fun S : List CP => ∀ y ∈ S, Sym (colL fs) (okLink s th) x y) (fun S hS => fold_ind (Pr := fun S : List CP => ∀ y ∈ S, Sym (colL fs) (okLink s th) x y) (colL fs) S (fun S p hp hS y hy => ?_) hS) fs.length [x] fun y hy => by rw [List.mem_singleton.mp hy]; exact .here) y h
    unfold sameStep at hy
    split at hy
    · rename_i ok
      have one : ∀ y ∈ sameOne S p, Sym (colL fs) (okLink s th) x y := fun y hy => by
        rcases sameOne_mem.mp hy with hy | ⟨h1, h2⟩
        · exact hS y hy
        · rw [h2]; exact .fwd (hS _ h1) hp ok
      rcases sameTwo_mem.mp hy with hy | ⟨h1, h2⟩
      · exact one y hy
      · rw [h2]; exact .bwd (one _ h1) hp ok
    · exact hS y hy
  · intro r
    induction r with
    | here => exact rounds_ind (Pr := fun S : List CP => x ∈ S) (fun S h => (fold_all fm tm m hs (colL fs) S).1 _ h) _ _ (List.mem_singleton_self _)
    | fwd _ hm ok ih => exact (shut _ hm ⟨ok, .inl ih⟩).2
    | bwd _ hm ok ih => exact (shut _ hm ⟨ok, .inr ih⟩).1
def metStep (L : CL) (S : List CP) : List CP := S ++ (L.filter fun p => decide (p.1 ∈ S)).map (·.2)
def metM (fs : List Fact) (S : List CP) : List CP := rounds (metStep (colL fs)) fs.length S
theorem metStep_mem {L : CL} {S : List CP} {z : CP} : z ∈ metStep L S ↔ z ∈ S ∨ ∃ y, (y, z) ∈ L ∧ y ∈ S := by
  unfold metStep
  rw [List.mem_append, List.mem_map]
  refine ⟨fun h => h.imp id fun ⟨p, hp, e⟩ => ?_, fun h => h.imp id fun ⟨y, h1, h2⟩ => ⟨(y, z), List.mem_filter.mpr ⟨h1, decide_eq_true h2⟩, rfl⟩⟩
  obtain ⟨h1, h2⟩ := List.mem_filter.mp hp
  subst e
  exact ⟨p.1, h1, of_decide_eq_true h2⟩
theorem met_mem {fs : List Fact} {S : List CP} {y : CP} : y ∈ metM fs S ↔ ∃ m ∈ S, RG (colL fs) m y := by
  have shut := clo_rounds (fun y (S : List CP) => y ∈ S) (colL fs) (fun p S => p.1 ∈ S) (fun p S => p.2 ∈ S) (metStep (colL fs)) (fun p S S' k h => k _ h) (fun p S S' k h => k _ h) (fun S y h => metStep_mem.mpr (.inl h)) (fun S p hp h => metStep_mem.mpr (.inr ⟨p.1, hp, h⟩))
    (fun S hc y h => by
      rcases metStep_mem.mp h with h | ⟨z, h1, h2⟩
      · exact h
      · exact hc (z, y) h1 h2) (colL_len fs) S
  constructor
  · intro h
    refine rounds_ind (Pr := fun R : List CP => ∀ y ∈ R, ∃ m ∈ S, RG (colL fs) m y) (fun R hR y hy => ?_) fs.length S (fun y hy => ⟨y, hy, .here⟩) y h
    rcases metStep_mem.mp hy with hy | ⟨z, h1, h2⟩
    · exact hR y hy
    · obtain ⟨m, hm, r⟩ := hR z h2
      exact ⟨m, hm, .step r h1⟩
  · rintro ⟨m, hm, r⟩
    induction r with
    | here => exact rounds_ind (Pr := fun R : List CP => m ∈ R) (fun R h => metStep_mem.mpr (.inl h)) _ _ hm
    | step _ hl ih => exact shut (_, _) hl ih
/-- what the law tells of found -/
def foundM (tabs : Tabs) (fs : List Fact) (x g : CP) : Prop :=
  g ∈ metM fs (if x ∈ (fixedM tabs fs).2 then sameM fs (fixedM tabs fs).2 (led fs x.1 ++ filledM fs fs) x else [x])
theorem found_iff {tabs : Tabs} {fs : List Fact} {x g : CP} (hF : ∀ f ∈ fs, Fct tabs f) (h4 : tabs.length ≤ 4) (h6 : fs.length ≤ 12) (hx : Col tabs x) : foundM tabs fs x g ↔ FoundI fs x g := by
  obtain ⟨_, spots⟩ := fixed_mem hF h4 h6
  have th : ∀ y, y ∈ led fs x.1 ++ filledM fs fs ↔ Reach (tabL fs) x.1 y ∨ Filled fs y := fun y => by rw [List.mem_append, led_mem, filledM_mem]
  unfold foundM
  generalize led fs x.1 ++ filledM fs fs = TH at th
  generalize (fixedM tabs fs).2 = s at spots
  rw [met_mem]
  have lift : ∀ {m y : CP}, RG (colL fs) m y → RG (colL fs ++ turnedL fs x.1) m y := fun r => r.mono fun p hp => List.mem_append_left _ hp
  have tlink : ∀ {y z : CP}, (y, z) ∈ colL fs → (y.1, z.1) ∈ tabL fs := fun h => List.mem_map.mpr ⟨_, h, rfl⟩
  have thc : ∀ {y z : CP}, (y, z) ∈ colL fs → y.1 ∈ TH → z.1 ∈ TH := fun {y z} h k => by
    rcases (th _).mp k with k | ⟨f, f1, f2, f3⟩
    · exact (th _).mpr (.inl (.step k (tlink h)))
    · exact (th _).mpr (.inr ⟨f, f1, f2, .step f3 (tlink h)⟩)
  by_cases c : x ∈ s
  · rw [if_pos c]
    constructor
    · rintro ⟨m, hm, r⟩
      refine RG.trans ?_ (lift r)
      clear r
      replace hm := same_mem.mp hm
      induction hm with
      | here => exact .here
      | fwd _ hl _ ih => exact .step ih (List.mem_append_left _ hl)
      | bwd _ hl ok ih => exact .step ih (List.mem_append_right _ (turned_mem.mpr ⟨hl, ((spots _).mp ok.1).2, (th _).mp ok.2.1⟩))
    · intro r
      unfold FoundI at r
      induction r with
      | here => exact ⟨x, same_mem.mpr .here, .here⟩
      | @step y z _ hl ih =>
        obtain ⟨m, hm, rm⟩ := ih
        rcases List.mem_append.mp hl with hl | hl
        · exact ⟨m, hm, .step rm hl⟩
        · obtain ⟨h1, hc, ht⟩ := turned_mem.mp hl
          have hm := same_mem.mp hm
          have tm : m.1 ∈ TH := by
            cases hm with
            | here => exact (th _).mpr (.inl .here)
            | fwd _ _ ok => exact ok.2.2
            | bwd _ _ ok => exact ok.2.1
          have go : ∀ {y : CP}, RG (colL fs) m y → Const fs y → Sym (colL fs) (okLink s TH) x y ∧ y.1 ∈ TH := fun {y} r => by
            induction r with
            | here => exact fun _ => ⟨hm, tm⟩
            | @step a b _ hab ih2 =>
              intro cb
              obtain ⟨w, rw', lw⟩ := cb
              obtain ⟨s1, t1⟩ := ih2 ⟨w, RG.trans (.step .here hab) rw', lw⟩
              have t2 := thc hab t1
              exact ⟨.fwd s1 hab ⟨(spots _).mpr ⟨(col_ok hF hab).2, w, rw', lw⟩, t1, t2⟩, t2⟩
          obtain ⟨sy, ty⟩ := go rm hc
          exact ⟨z, same_mem.mpr (.bwd sy h1 ⟨(spots _).mpr ⟨(col_ok hF h1).2, hc⟩, (th _).mpr ht, ty⟩), .here⟩
  · rw [if_neg c]
    have nc : ¬ Const fs x := fun h => c ((spots _).mpr ⟨hx, h⟩)
    constructor
    · rintro ⟨m, hm, r⟩
      rw [List.mem_singleton.mp hm] at r
      exact lift r
    · intro r
      refine ⟨x, List.mem_singleton_self _, ?_⟩
      unfold FoundI at r
      induction r with
      | here => exact .here
      | @step y z _ hl ih =>
        rcases List.mem_append.mp hl with hl | hl
        · exact .step ih hl
        · obtain ⟨h1, ⟨w, r1, l1⟩, ht⟩ := turned_mem.mp hl
          exact absurd ⟨w, RG.trans ih r1, l1⟩ nc
/-! ### what follows is kept -/
section
variable {tabs : Tabs} {dat : Dat} {fs : List Fact}
def vals (tabs : Tabs) (dat : Dat) (x : CP) : List Int := valsD tabs dat (x.1, some x.2)
theorem vals_len {x : CP} : (vals tabs dat x).length = (rowsD dat x.1).length := by
  unfold vals valsD colVals
  rw [List.length_map]
theorem keep_found {x y : CP} : keepsB tabs dat (("found" : Str), (x.1, some x.2), some (y.1, some y.2)) = true ↔ ∀ n ∈ vals tabs dat x, n ∈ vals tabs dat y := by
  unfold keepsB
  rw [if_neg (show ¬ ("found" : Str) = ("single" : Str) by decide +kernel), if_neg (show ¬ ("found" : Str) = ("filled" : Str) by decide +kernel), if_neg (show ¬ ("found" : Str) = ("unique" : Str) by decide +kernel), if_neg (show ¬ ("found" : Str) = ("sorted" : Str) by decide +kernel), List.all_eq_true]
  exact ⟨fun h n hn => of_decide_eq_true (h n hn), fun h n hn => decide_eq_true (h n hn)⟩
theorem keep_single {t : Str} : keepsB tabs dat (("single" : Str), (t, none), none) = true ↔ (rowsD dat t).length ≤ 1 := by
  unfold keepsB
  rw [if_pos rfl, decide_eq_true_iff]
theorem keep_filled {t : Str} : keepsB tabs dat (("filled" : Str), (t, none), none) = true ↔ 1 ≤ (rowsD dat t).length := by
  unfold keepsB
  rw [if_neg (show ¬ ("filled" : Str) = ("single" : Str) by decide +kernel), if_pos rfl, decide_eq_true_iff]
theorem keep_unique {x : CP} : keepsB tabs dat (("unique" : Str), (x.1, some x.2), none) = true ↔ (vals tabs dat x).Nodup := by
  unfold keepsB
  rw [if_neg (show ¬ ("unique" : Str) = ("single" : Str) by decide +kernel), if_neg (show ¬ ("unique" : Str) = ("filled" : Str) by decide +kernel), if_pos rfl, decide_eq_true_iff]; rfl
theorem keep_sorted {x : CP} : keepsB tabs dat (("sorted" : Str), (x.1, some x.2), none) = true ↔ (vals tabs dat x).Pairwise (· ≤ ·) := by
  unfold keepsB
  rw [if_neg (show ¬ ("sorted" : Str) = ("single" : Str) by decide +kernel), if_neg (show ¬ ("sorted" : Str) = ("filled" : Str) by decide +kernel), if_neg (show ¬ ("sorted" : Str) = ("unique" : Str) by decide +kernel), if_pos rfl, decide_eq_true_iff]; rfl
theorem link_fact (hF : ∀ f ∈ fs, Fct tabs f) {p : CP × CP} (hp : p ∈ colL fs) : (("found" : Str), (p.1.1, some p.1.2), some (p.2.1, some p.2.2)) ∈ fs := by
  obtain ⟨f, hf, e⟩ := List.mem_filterMap.mp hp
  have ne : ∀ {a b c : Str}, a = b → b ≠ c → a ≠ c := fun e n z => n (by rw [← e, z])
  unfold linkC at e
  cases hF f hf with
  | table ht hw =>
    rw [if_neg (show ¬ _ = ("found" : Str) from hw.elim (fun z => ne z (by decide +kernel)) fun z => ne z (by decide +kernel))] at e
    cases e
  | column hx hw =>
    rw [if_neg (show ¬ _ = ("found" : Str) from hw.elim (fun z => ne z (by decide +kernel)) fun z => ne z (by decide +kernel))] at e
    cases e
  | found hx hy =>
    rw [if_pos rfl] at e
    cases e
    exact hf
variable (hF : ∀ f ∈ fs, Fct tabs f) (hk : ∀ f ∈ fs, keepsB tabs dat f = true)
include hF hk in
theorem sub_rg {x y : CP} (r : RG (colL fs) x y) : ∀ n ∈ vals tabs dat x, n ∈ vals tabs dat y := by
  induction r with
  | here => exact fun n h => h
  | step _ hl ih => exact fun n h => keep_found.mp (hk _ (link_fact hF hl)) n (ih n h)
include hF hk in
theorem some_link {p : CP × CP} (hp : p ∈ colL fs) (h : 1 ≤ (rowsD dat p.1.1).length) : 1 ≤ (rowsD dat p.2.1).length := by
  have z := keep_found.mp (hk _ (link_fact hF hp))
  rw [← vals_len (tabs := tabs) (x := p.1)] at h
  rw [← vals_len (tabs := tabs) (x := p.2)]
  cases e : vals tabs dat p.1 with
  | nil => rw [e] at h; exact absurd h (by decide)
  | cons n r => exact List.length_pos_of_mem (z n (by rw [e]; exact List.mem_cons_self))
include hF hk in
theorem some_reach {a b : Str} (r : Reach (tabL fs) a b) (h : 1 ≤ (rowsD dat a).length) : 1 ≤ (rowsD dat b).length := by
  induction r with
  | here => exact h
  | step _ hl ih =>
    obtain ⟨p, hp, e⟩ := List.mem_map.mp hl
    have z := some_link hF hk hp
    cases e
    exact z ih
include hF hk in
theorem some_filled {t : Str} (h : Filled fs t) : 1 ≤ (rowsD dat t).length := by
  obtain ⟨f, f1, f2, f3⟩ := h
  refine some_reach hF hk f3 ?_
  have z := hk f f1
  cases hF f f1 with
  | @table t w ht hw =>
    have e : w = ("filled" : Str) := f2
    subst e
    exact keep_filled.mp z
  | @column x w hx hw => exact absurd (show w = ("filled" : Str) from f2) (by rcases hw with rfl | rfl <;> decide +kernel)
  | found hx hy => exact absurd (show ("found" : Str) = ("filled" : Str) from f2) (by decide +kernel)
theorem one_of {x : CP} (h : (rowsD dat x.1).length ≤ 1) : ∀ m ∈ vals tabs dat x, ∀ n ∈ vals tabs dat x, m = n := by
  rw [← vals_len (tabs := tabs) (x := x)] at h
  match e : vals tabs dat x with
  | [] => intro m hm; cases hm
  | [a] => intro m hm n hn; rw [List.mem_singleton.mp hm, List.mem_singleton.mp hn]
  | a :: b :: r => rw [e] at h; simp at h
include hF hk in
theorem lone_rows {t : Str} (h : Lone fs t) : (rowsD dat t).length ≤ 1 := by
  induction h with
  | @single f hf e =>
    have z := hk f hf
    cases hF f hf with
    | @table t w ht hw =>
      have e : w = ("single" : Str) := e
      subst e
      exact keep_single.mp z
    | @column x w hx hw => exact absurd (show w = ("single" : Str) from e) (by rcases hw with rfl | rfl <;> decide +kernel)
    | found hx hy => exact absurd (show ("found" : Str) = ("single" : Str) from e) (by decide +kernel)
  | @uniq f y hf e r l ih =>
    have z := hk f hf
    cases hF f hf with
    | @table t w ht hw => exact absurd (show w = ("unique" : Str) from e) (by rcases hw with rfl | rfl <;> decide +kernel)
    | @column x w hx hw =>
      have e : w = ("unique" : Str) := e
      subst e
      have nd := keep_unique.mp z
      have sub := sub_rg hF hk (x := x) r
      have one : ∀ m ∈ vals tabs dat x, ∀ n ∈ vals tabs dat x, m = n := fun m hm n hn => one_of ih m (sub m hm) n (sub n hn)
      show (rowsD dat x.1).length ≤ 1
      rw [← vals_len (tabs := tabs) (x := x)]
      match e : vals tabs dat x with
      | [] => decide
      | [a] => exact Nat.le_refl 1
      | a :: b :: r =>
        rw [e] at nd one
        have q := one a List.mem_cons_self b (List.mem_cons_of_mem _ List.mem_cons_self)
        rw [q] at nd
        exact absurd List.mem_cons_self (List.nodup_cons.mp nd).1
    | found hx hy => exact absurd (show ("found" : Str) = ("unique" : Str) from e) (by decide +kernel)
include hF hk in
theorem one_const {x : CP} (h : Const fs x) : ∀ m ∈ vals tabs dat x, ∀ n ∈ vals tabs dat x, m = n := by
  obtain ⟨y, r, l⟩ := h
  have sub := sub_rg hF hk r
  exact fun m hm n hn => one_of (lone_rows hF hk l) m (sub m hm) n (sub n hn)
include hF hk in
theorem sub_found {x g : CP} (h : FoundI fs x g) : ∀ n ∈ vals tabs dat x, n ∈ vals tabs dat g := by
  intro n hn
  have hx : 1 ≤ (rowsD dat x.1).length := by
    rw [← vals_len (tabs := tabs) (x := x)]; exact List.length_pos_of_mem hn
  unfold FoundI at h
  induction h with
  | here => exact hn
  | @step y z _ hl ih =>
    rcases List.mem_append.mp hl with hl | hl
    · exact keep_found.mp (hk _ (link_fact hF hl)) n ih
    · obtain ⟨h1, hc, ht⟩ := turned_mem.mp hl
      have hz : 1 ≤ (rowsD dat z.1).length := ht.elim (fun r => some_reach hF hk r hx) fun f => some_filled hF hk f
      rw [← vals_len (tabs := tabs) (x := z)] at hz
      cases e : vals tabs dat z with
      | nil => rw [e] at hz; exact absurd hz (by decide)
      | cons m r =>
        have hm : m ∈ vals tabs dat z := by rw [e]; exact List.mem_cons_self
        have q := one_const hF hk hc m (keep_found.mp (hk _ (link_fact hF h1)) m hm) n ih
        rw [← e, ← q]; exact hm
include hF hk in
theorem follows_kept {f : Fact} (hf : Fct tabs f) (h : Follows fs f) : keepsB tabs dat f = true := by
  cases hf with
  | @table t w ht hw =>
    rcases hw with rfl | rfl
    · refine keep_single.mpr ?_
      rcases h with h | h | h | h | h
      · exact absurd (show ("single" : Str) = ("filled" : Str) from h.1) (by decide +kernel)
      · exact absurd (show ("single" : Str) = ("found" : Str) from h.1) (by decide +kernel)
      · exact lone_rows hF hk h.2
      · exact absurd (show ("single" : Str) = ("unique" : Str) from h.1) (by decide +kernel)
      · exact absurd (show ("single" : Str) = ("sorted" : Str) from h.1) (by decide +kernel)
    · refine keep_filled.mpr ?_
      rcases h with h | h | h | h | h
      · exact some_filled hF hk h.2
      · exact absurd (show ("filled" : Str) = ("found" : Str) from h.1) (by decide +kernel)
      · exact absurd (show ("filled" : Str) = ("single" : Str) from h.1) (by decide +kernel)
      · exact absurd (show ("filled" : Str) = ("unique" : Str) from h.1) (by decide +kernel)
      · exact absurd (show ("filled" : Str) = ("sorted" : Str) from h.1) (by decide +kernel)
  | @column x w hx hw =>
    rcases hw with rfl | rfl
    · rcases h with h | h | h | h | h
      · exact absurd (show ("unique" : Str) = ("filled" : Str) from h.1) (by decide +kernel)
      · exact absurd (show ("unique" : Str) = ("found" : Str) from h.1) (by decide +kernel)
      · exact absurd (show ("unique" : Str) = ("single" : Str) from h.1) (by decide +kernel)
      · rcases h.2 with h | h
        · exact hk _ h
        · refine keep_unique.mpr ?_
          have z := lone_rows hF hk (t := x.1) h
          rw [← vals_len (tabs := tabs) (x := x)] at z
          match e : vals tabs dat x with
          | [] => exact List.nodup_nil
          | [a] => exact List.nodup_cons.mpr ⟨fun h => (by cases h), List.nodup_nil⟩
          | a :: b :: r => rw [e] at z; simp at z
      · exact absurd (show ("unique" : Str) = ("sorted" : Str) from h.1) (by decide +kernel)
    · rcases h with h | h | h | h | h
      · exact absurd (show ("sorted" : Str) = ("filled" : Str) from h.1) (by decide +kernel)
      · exact absurd (show ("sorted" : Str) = ("found" : Str) from h.1) (by decide +kernel)
      · exact absurd (show ("sorted" : Str) = ("single" : Str) from h.1) (by decide +kernel)
      · exact absurd (show ("sorted" : Str) = ("unique" : Str) from h.1) (by decide +kernel)
      · rcases h.2 with h | h
        · exact hk _ h
        · have one := one_const hF hk (x := x) h
          exact keep_sorted.mpr (List.pairwise_of_forall_mem_list fun m hm n hn => Int.le_of_eq (one m hm n hn))
  | @found x y hx hy =>
    rcases h with h | h | h | h | h
    · exact absurd (show ("found" : Str) = ("filled" : Str) from h.1) (by decide +kernel)
    · exact keep_found.mpr (sub_found hF hk h.2)
    · exact absurd (show ("found" : Str) = ("single" : Str) from h.1) (by decide +kernel)
    · exact absurd (show ("found" : Str) = ("unique" : Str) from h.1) (by decide +kernel)
    · exact absurd (show ("found" : Str) = ("sorted" : Str) from h.1) (by decide +kernel)
end
end L2.Pf
set_option maxHeartbeats 2000000
namespace L2.Pf
open PySem PySem.Spec PyProof.Rows L2.Ev L2.Tpd L2.Seti L2.Gq L2.Enf L2.Sett L2.Itr L2.Dls L2.Own L2.Dsp L2.Dcs L2.Vls L2.Ent
theorem strs_in {α : Type} [DecidableEq α] (e : α → Str) (Ok : α → Prop) (inj : ∀ x y, Ok x → Ok y → e x = e y → x = y) {S : List α} {x : α} (hS : ∀ y ∈ S, Ok y) (hx : Ok x) : inV (.str (e x)) (S.map fun z => V.str (e z)) = decide (x ∈ S) := by
  have ee : (S.map fun z => V.str (e z)) = (S.map e).map V.str := by rw [List.map_map]; rfl
  rw [ee]
  by_cases h : x ∈ S
  · rw [decide_eq_true h]; exact mem_inV.mpr (List.mem_map.mpr ⟨x, h, rfl⟩)
  · rw [decide_eq_false h]
    refine Bool.eq_false_iff.mpr fun z => h ?_
    obtain ⟨y, hy, e2⟩ := List.mem_map.mp (mem_inV.mp z)
    rw [← inj y x (hS y hy) hx e2]; exact hy
/-- S + [y] * int(x in S and y not in S) -/
theorem add_if {K : PySem.W.Frag} {α : Type} [DecidableEq α] (e : α → Str) {i a b : Nat} {σ : L2.St} {H : Hp} {Q : VK} {ad : Addr} {S : List α} {x y : α} (hi : σ[i]? = some (some (.ref ad))) (ha : σ[a]? = some (some (.str (e x)))) (hb : σ[b]? = some (some (.str (e y))))
    (hS : H ad = some (.lst (S.map fun z => V.str (e z)))) (hx : inV (.str (e x)) (S.map fun z => V.str (e z)) = decide (x ∈ S)) (hy : inV (.str (e y)) (S.map fun z => V.str (e z)) = decide (y ∈ S)) (hl : S.length ≤ 100000)
    (k : ∀ r H', H r = none → Same H H' → H' r = some (.lst ((addIf (decide (x ∈ S ∧ y ∉ S)) S y).map fun z => V.str (e z))) → Q (.ref r) H') :
    tOp rCatS (tVar i) (tOp rRep (tLstS (tCons (tVar b) tNil)) (tCB (fun xs H Q => (∃ i, xs = [V.int i] ∧ Q (V.int i) H) ∨ ∃ k, xs = [V.bl k] ∧ Q (V.int (if k = true then 1 else 0)) H)
      (tCons (tAndV (tOp (rIn K false) (tVar a) (tVar i)) (tOp (rIn K true) (tVar b) (tVar i))) tNil))) σ H Q := by
  refine ⟨_, hi, _, hb, (by show 1 ≤ sizeLine; decide), fun l1 H1 n1 s1 e1 => ?_⟩
  have fl : (S.map fun z => V.str (e z)).all flatV = true := all_strs e S
  have fin : ∀ c : Bool, c = decide (x ∈ S ∧ y ∉ S) → rRep (.ref l1) (.int (if c = true then 1 else 0)) H1 (fun v H2 => rCatS (.ref ad) v H2 Q) := fun c hc => by
    refine ⟨l1, _, _, rfl, rfl, e1, ?_, ?_, ?_, fun p hp => ?_⟩
    · split <;> decide
    · split <;> decide
    · split
      · show 1 ≤ sizeLine
        decide
      · exact Nat.zero_le _
    have s2 : Same H1 (L2.upd H1 p (.lst (List.replicate (if c = true then (1 : Int) else 0).toNat [V.str (e y)]).flatten)) := Same.new (Same.refl _) hp
    have e2 : (L2.upd H1 p (.lst (List.replicate (if c = true then (1 : Int) else 0).toNat [V.str (e y)]).flatten)) p = some (.lst (if c = true then [V.str (e y)] else [])) := by
      rw [upd_same]
      cases c <;> rfl
    generalize L2.upd H1 p (.lst (List.replicate (if c = true then (1 : Int) else 0).toNat [V.str (e y)]).flatten) = H2 at s2 e2
    have hc1 : (if c = true then [V.str (e y)] else []).length ≤ 1 := by split <;> simp
    refine ⟨ad, p, _, _, rfl, rfl, s2 _ _ (s1 _ _ hS), e2, by rw [List.length_map, sizeLine_eq]; omega, fun r H3 n3 s3 e3 => k r H3 ?_ ((s1.trans s2).trans s3) ?_⟩
    · rcases hx : H r with _ | u
      · rfl
      · rw [(s1.trans s2) _ _ hx] at n3; cases n3
    · rw [e3, ← hc]
      unfold addIf
      cases c with
      | true => rw [if_pos rfl, if_pos rfl, List.map_append]; rfl
      | false => rw [if_neg (by decide), if_neg (by decide), List.append_nil]
  refine ⟨_, ha, _, hi, ad, _, rfl, .inl (SqL.of (s1 _ _ hS)), rfl, fl, decide (x ∈ S), congrArg V.bl hx, ?_⟩
  by_cases c1 : x ∈ S
  · rw [decide_eq_true c1]
    refine iteT ⟨_, hb, _, hi, ad, _, rfl, .inl (SqL.of (s1 _ _ hS)), rfl, fl, .inr ⟨!decide (y ∈ S), congrArg (fun b => [V.bl (!b)]) hy, fin _ ?_⟩⟩
    by_cases c2 : y ∈ S
    · rw [decide_eq_true c2, decide_eq_false (fun h => h.2 c2)]; rfl
    · rw [decide_eq_false c2, decide_eq_true ⟨c1, c2⟩]; rfl
  · rw [decide_eq_false c1]
    exact iteF (.inr ⟨false, rfl, fin false (decide_eq_false (fun h => c1 h.1)).symm⟩)
section
variable {P : Program} {w : World} {K : PySem.W.Frag} {mg : Str → Option Value} {base : Heap}
/-- a law's list of lines, over drawn tables -/
structure LinesAt (H : Hp) (l : Addr) (tabs : Tabs) (fs : List Fact) : Prop where
  lst : H l = some (.lst (linesV fs))
  good : ∀ t ∈ tabs, GoodTab t
  nd : (tabs.map (·.1)).Nodup
  few : tabs.length ≤ 4
  fct : ∀ f ∈ fs, Fct tabs f
  len : fs.length ≤ 12
theorem LinesAt.same {H H' : Hp} {l : Addr} {tabs : Tabs} {fs : List Fact} (h : LinesAt H l tabs fs) (s : Same H H') : LinesAt H' l tabs fs := ⟨s _ _ h.lst, h.good, h.nd, h.few, h.fct, h.len⟩
theorem two_sz {x : Str} (h : x.length ≤ 10000) : x.length + 2 ≤ sizeLine := by rw [sizeLine_eq]; omega
def sp_fact_tables : Sp := fun vs H Q _ => ∃ (tabs : Tabs) (x y : CP), vs = [.str (lineT (("found" : Str), (x.1, some x.2), some (y.1, some y.2)))] ∧ (∀ t ∈ tabs, GoodTab t) ∧ Col tabs x ∧ Col tabs y ∧ ∀ r H', H r = none → Same H H' → H' r = some (.tup [.str x.1, .str y.1]) → Q (.ref r) H'
theorem ok_fact_tables (T : TX K mg) (B : TB T base) : FnOk P w K mg base CX0 1 T.a_fact_tables T.fd_fact_tables p_fact_tables sp_fact_tables := by
  refine T.F_fact_tables.ok sc_fact_tables (fun vs H Q E h => ?_) (fun cdv A outer s H vs Q E hr h => ?_)
  · obtain ⟨tabs, x, y, rfl, _⟩ := h
    rfl
  · obtain ⟨tabs, x, y, rfl, G, hx, hy, k⟩ := h
    refine ⟨_, (pss_cons (ps_set (i := 1) sc_fact_tables.nd rfl (Or.inl rfl) (pe_split (pv 0) pe_str))
  (pss_one (ps_ret (pe_tupS (pa_cons (pe_ix ix_list (pe_split (pe_ix ix_list (pv 1) pe_int (fun _ _ => rfl)) pe_str) pe_int (fun _ _ => rfl)) (pa_cons (pe_ix ix_list (pe_split (pe_ix ix_list (pv 1) pe_int (fun _ _ => rfl)) pe_str) pe_int (fun _ _ => rfl)) pa_nil)))))), ?_⟩
    have hf : Fct tabs (("found" : Str), (x.1, some x.2), some (y.1, some y.2)) := .found hx hy
    have hsz := line_len G hf
    have hw := line_split G hf
    have lx := sp_len (hx.nm G)
    have ly := sp_len (hy.nm G)
    refine ⟨_, rfl, ⟨_, rfl⟩, _, _, rfl, rfl, by decide, two_sz (by omega), fun p0 np0 => ?_⟩
    rw [hw]
    have s1 : Same H (upd H p0 (.lst ((words (("found" : Str), (x.1, some x.2), some (y.1, some y.2))).map V.str))) := Same.new (Same.refl _) np0
    have e1 : (upd H p0 (.lst ((words (("found" : Str), (x.1, some x.2), some (y.1, some y.2))).map V.str))) p0 = some (.lst ([("found" : Str), sp x, ("in" : Str), sp y].map V.str)) := upd_same
    generalize upd H p0 (.lst ((words (("found" : Str), (x.1, some x.2), some (y.1, some y.2))).map V.str)) = H1 at s1 e1
    refine ⟨_, rfl, p0, _, 1, _, rfl, rfl, SqL.of e1, atI_nat (k := 1) rfl, ⟨_, rfl⟩, _, _, rfl, rfl, by decide, two_sz (by omega), fun p1 np1 => ?_⟩
    rw [sp_split (hx.nm G)]
    have s2 : Same H1 (upd H1 p1 (.lst ([x.1, x.2].map V.str))) := Same.new (Same.refl _) np1
    have e2 : (upd H1 p1 (.lst ([x.1, x.2].map V.str))) p1 = some (.lst ([x.1, x.2].map V.str)) := upd_same
    generalize upd H1 p1 (.lst ([x.1, x.2].map V.str)) = H2 at s2 e2
    refine ⟨p1, _, 0, _, rfl, rfl, SqL.of e2, atI_nat (k := 0) rfl, ?_⟩
    refine ⟨_, rfl, p0, _, 3, _, rfl, rfl, SqL.of (s2 _ _ e1), atI_nat (k := 3) rfl, ⟨_, rfl⟩, _, _, rfl, rfl, by decide, two_sz (by omega), fun p3 np3 => ?_⟩
    rw [sp_split (hy.nm G)]
    have s3 : Same H2 (upd H2 p3 (.lst ([y.1, y.2].map V.str))) := Same.new (Same.refl _) np3
    have e3 : (upd H2 p3 (.lst ([y.1, y.2].map V.str))) p3 = some (.lst ([y.1, y.2].map V.str)) := upd_same
    generalize upd H2 p3 (.lst ([y.1, y.2].map V.str)) = H3 at s3 e3
    refine ⟨p3, _, 0, _, rfl, rfl, SqL.of e3, atI_nat (k := 0) rfl, (by show 2 ≤ sizeLine; decide), fun r H4 n4 s4 e4 => ?_⟩
    have s03 := (s1.trans s2).trans s3
    exact k r H4 (free_of s03 n4) (s03.trans s4) e4
def sp_led_from : Sp := fun vs H Q _ => ∃ (l : Addr) (t : Str) (tabs : Tabs) (fs : List Fact), vs = [.ref l, .str t] ∧ LinesAt H l tabs fs ∧ ∀ r H', H r = none → Same H H' → H' r = some (.lst ((led fs t).map V.str)) → (led fs t).length ≤ 1000 → Q (.ref r) H'
theorem ok_led_from (T : TX K mg) (B : TB T base) : FnOk P w K mg base CX0 2 T.a_led_from T.fd_led_from p_led_from sp_led_from := by
  refine T.F_led_from.ok sc_led_from (fun vs H Q E h => ?_) (fun cdv A outer s H vs Q E hr h => ?_)
  · obtain ⟨l, t, tabs, fs, rfl, _⟩ := h
    rfl
  · obtain ⟨l, t, tabs, fs, rfl, hL, k⟩ := h
    refine ⟨_, (pss_cons (ps_set (i := 2) sc_led_from.nd rfl (Or.inl rfl) (pe_lstS (pa_cons (pv 1) pa_nil)))
  (pss_cons (ps_for PassesOwn.never rfl (pi_range1 (by rfl) T.z_range (pa_cons (pe_callB call_len_seq (by rfl) T.z_len (by decide +kernel) (pa_cons (pv 0) pa_nil)) pa_nil)) (pg_name (i := 3) sc_led_from.nd rfl (Or.inl rfl)) (pss_one (ps_for PassesOwn.never rfl (pi_list (pv 0)) (pg_name (i := 4) sc_led_from.nd rfl (Or.inl rfl)) (pss_one (ps_if (pt_cmpR op_eq (pe_slice sl_str (pv 4) po_none (po_some pe_int)) pe_str (nomark _)) (pss_cons (ps_asg (pe_call (ok_fact_tables T B) (hr.mono (by decide)) rfl T.g_fact_tables T.F_fact_tables.kp T.b_fact_tables .nil pass0 (pa_cons (pv 4) pa_nil)) (pg_tup rfl (pgs_cons (pg_name (i := 5) sc_led_from.nd rfl (Or.inl rfl)) (pgs_cons (pg_name (i := 6) sc_led_from.nd rfl (Or.inl rfl)) pgs_nil))))
  (pss_one (ps_set (i := 2) sc_led_from.nd rfl (Or.inl rfl) (pe_op op_catS (pv 2) (pe_op op_rep (pe_lstS (pa_cons (pv 6) pa_nil)) (pe_callTy call_int1 (by rfl) T.z_int (by decide +kernel) (pa_cons (pe_and (pe_cmpR op_in_seq (pv 5) (pv 2) (by rfl)) (pe_one (pe_cmpR op_notIn_seq (pv 6) (pv 2) (by rfl)))) pa_nil))))))) pss_nil)))))
  (pss_one (ps_ret (pv 2))))), ?_⟩
    have hlen := hL.len
    have hll : (linesV fs).length = fs.length := List.length_map ..
    refine ⟨_, rfl, (by show 1 ≤ sizeLine; decide), fun a0 H0 n0 s0 e0 => ?_⟩
    have nf : ∀ {H' : Hp} {a : Addr}, Same H H' → H' a = none → H a = none := free_of
    refine ⟨_, rfl, l, _, rfl, .inl (SqL.of (s0 _ _ hL.lst)), ((linesV fs).length : Nat), rfl, by omega, by omega, ?_⟩
    refine for_range (lo := 0) (n := ((linesV fs).length : Int).toNat) (fun i σ H' => ∃ (ad : Addr) (v3 v4 v5 v6 : Option V), σ = [some (.ref l), some (.str t), some (.ref ad), v3, v4, v5, v6] ∧ Same H H' ∧ H ad = none ∧ H' ad = some (.lst ((rounds (fun S => fs.foldl ledStep S) i [t]).map V.str)) ∧ (rounds (fun S => fs.foldl ledStep S) i [t]).length ≤ 1 + 12 * i)
      ⟨a0, none, none, none, none, rfl, s0, n0, e0, Nat.le_refl _⟩ ?_ ?_
    · rintro i σ H1 hi ⟨ad, v3, v4, v5, v6, rfl, s1, na, e1, hS⟩
      have hi : i < fs.length := by rw [hll] at hi; simpa using hi
      generalize hS0 : rounds (fun S => fs.foldl ledStep S) i [t] = S0 at e1 hS
      refine ⟨_, rfl, l, rfl, ⟨_, SqL.of (s1 _ _ hL.lst)⟩, ?_⟩
      refine for_list (xs := linesV fs) (fun j σ H' => ∃ (ad : Addr) (v4 v5 v6 : Option V), σ = [some (.ref l), some (.str t), some (.ref ad), some (.int (0 + (i : Int))), v4, v5, v6] ∧ Same H H' ∧ H ad = none ∧ H' ad = some (.lst (((fs.take j).foldl ledStep S0).map V.str)) ∧ ((fs.take j).foldl ledStep S0).length ≤ 1 + 12 * i + j)
        ⟨ad, _, _, _, rfl, s1, na, e1, hS⟩ (fun j σ H' _ ⟨_, _, _, _, _, s, _⟩ => SqL.of (s _ _ hL.lst)) ?_ ?_
      · rintro j v σ H2 hj ⟨ad, v4, v5, v6, rfl, s2, na, e2, hS2⟩
        have hjl : j < fs.length := by
          rcases Nat.lt_or_ge j fs.length with h | h
          · exact h
          · rw [List.getElem?_eq_none (by omega)] at hj; cases hj
        unfold linesV at hj
        rw [List.getElem?_map, List.getElem?_eq_getElem hjl] at hj
        cases hj
        have hf := hL.fct _ (List.getElem_mem hjl)
        have es : (fs.take (j + 1)).foldl ledStep S0 = ledStep ((fs.take j).foldl ledStep S0) fs[j] := by
          rw [List.take_add_one, List.getElem?_eq_getElem hjl, List.foldl_append]; rfl
        generalize (fs.take j).foldl ledStep S0 = S at e2 hS2 es
        generalize fs[j] = f at hf es
        have hsz := line_len hL.good hf
        refine ⟨_, rfl, 6, rfl, _, rfl, by rw [sizeLine_eq]; omega, rfl, _, rfl, ?_⟩
        have ec : decide (V.str (cutS (lineT f) none (some 6)) = V.str "found ") = decide (f.1 = ("found" : Str)) := by
          rw [← cut_found hf]
          by_cases h : cutS (lineT f) none (some 6) = ("found " : Str)
          · rw [decide_eq_true h, decide_eq_true (by rw [h])]
          · rw [decide_eq_false h, decide_eq_false (fun z => h (V.str.inj z))]
        rw [ec]
        by_cases c : f.1 = ("found" : Str)
        · rw [decide_eq_true c]
          cases hf with
          | @table t w ht hw => exact absurd (show w = ("found" : Str) from c) (by rcases hw with rfl | rfl <;> decide +kernel)
          | @column x w hx hw => exact absurd (show w = ("found" : Str) from c) (by rcases hw with rfl | rfl <;> decide +kernel)
          | @found x y hx hy =>
            have el : ledStep S (("found" : Str), (x.1, some x.2), some (y.1, some y.2)) = addIf (decide (x.1 ∈ S ∧ y.1 ∉ S)) S y.1 := rfl
            rw [el] at es
            refine iteT ⟨_, rfl, tabs, x, y, rfl, hL.good, hx, hy, fun r H3 n3 s3 e3 => ?_⟩
            refine ⟨r, _, rfl, SqT.of e3, rfl, _, _, rfl, _, _, rfl, rfl, ?_⟩
            have inn : ∀ z : Str, inV (.str z) (S.map V.str) = decide (z ∈ S) := fun z => by
              by_cases h : z ∈ S
              · rw [decide_eq_true h]; exact mem_inV.mpr h
              · rw [decide_eq_false h]; exact Bool.eq_false_iff.mpr fun q => h (mem_inV.mp q)
            refine add_if (K := K) (fun z : Str => z) (i := 2) (a := 5) (b := 6) (S := S) (x := x.1) (y := y.1) rfl rfl rfl (s3 _ _ e2) (inn _) (inn _) (by omega) fun r2 H4 n4 s4 e4 => ?_
            refine ⟨r2, _, _, _, rfl, (s2.trans s3).trans s4, free_of (s2.trans s3) n4, ?_, ?_⟩
            · rw [es]; exact e4
            · rw [es]
              have z := addIf_len (c := decide (x.1 ∈ S ∧ y.1 ∉ S)) (S := S) (y := y.1)
              omega
        · rw [decide_eq_false c]
          have el : ledStep S f = S := by
            unfold ledStep linkS linkC
            rw [if_neg c]; rfl
          rw [el] at es
          exact iteF ⟨ad, _, _, _, rfl, s2, na, by rw [es]; exact e2, by rw [es]; omega⟩
      · rintro σ H2 ⟨ad, v4, v5, v6, rfl, s2, na, e2, hS2⟩
        rw [hll, List.take_length] at e2 hS2
        have er : rounds (fun S => fs.foldl ledStep S) (i + 1) [t] = fs.foldl ledStep S0 := by rw [← hS0]; rfl
        exact ⟨ad, _, _, _, _, rfl, s2, na, by rw [er]; exact e2, by rw [er]; omega⟩
    · rintro σ H1 ⟨ad, v3, v4, v5, v6, rfl, s1, na, e1, hS⟩
      have hn : ((linesV fs).length : Int).toNat = fs.length := by rw [hll]; simp
      rw [hn] at e1 hS
      have hlen2 : (led fs t).length ≤ 1000 := by
        have z : (led fs t).length ≤ 1 + 12 * fs.length := hS
        have z2 : 12 * fs.length ≤ 144 := by omega
        omega
      exact ⟨_, rfl, k ad H1 na s1 e1 hlen2⟩
end
end L2.Pf
set_option maxHeartbeats 2000000
namespace L2.Pf
open PySem PySem.Spec PyProof.Rows L2.Ev L2.Tpd L2.Seti L2.Gq L2.Enf L2.Sett L2.Itr L2.Dls L2.Own L2.Dsp L2.Dcs L2.Vls L2.Ent
section
variable {P : Program} {w : World} {K : PySem.W.Frag} {mg : Str → Option Value} {base : Heap}
theorem cmp_text (x y : Str) : decide (V.str x = V.str y) = decide (x = y) := by
  by_cases h : x = y
  · rw [decide_eq_true h, decide_eq_true (by rw [h])]
  · rw [decide_eq_false h, decide_eq_false (fun z => h (V.str.inj z))]
theorem led_len {fs : List Fact} {t : Str} (h : fs.length ≤ 12) : (led fs t).length ≤ 145 := by
  have step : ∀ (gs : List Fact) (S : List Str), (gs.foldl ledStep S).length ≤ S.length + gs.length := by
    intro gs
    induction gs with
    | nil => intro S; exact Nat.le_refl _
    | cons a r ih =>
      intro S
      rw [List.foldl_cons, List.length_cons]
      have z := ih (ledStep S a)
      have z2 : (ledStep S a).length ≤ S.length + 1 := by
        unfold ledStep
        split
        · exact addIf_len
        · exact Nat.le_succ _
      omega
  have all : ∀ n, (rounds (fun S => fs.foldl ledStep S) n [t]).length ≤ 1 + fs.length * n := by
    intro n
    induction n with
    | zero => exact Nat.le_refl _
    | succ n ih =>
      have z := step fs (rounds (fun S => fs.foldl ledStep S) n [t])
      show (fs.foldl ledStep (rounds (fun S => fs.foldl ledStep S) n [t])).length ≤ _
      rw [Nat.mul_succ]; omega
  have z := all fs.length
  have z2 : fs.length * fs.length ≤ 12 * 12 := Nat.mul_le_mul h h
  unfold led
  omega
def sp_filled : Sp := fun vs H Q _ => ∃ (l : Addr) (tabs : Tabs) (fs : List Fact), vs = [.ref l] ∧ LinesAt H l tabs fs ∧ ∀ r H', H r = none → Same H H' → H' r = some (.lst ((filledM fs fs).map V.str)) → (filledM fs fs).length ≤ 2000 → Q (.ref r) H'
theorem ok_filled (T : TX K mg) (B : TB T base) : FnOk P w K mg base CX0 3 T.a_filled T.fd_filled p_filled sp_filled := by
  refine T.F_filled.ok sc_filled (fun vs H Q E h => ?_) (fun cdv A outer s H vs Q E hr h => ?_)
  · obtain ⟨l, tabs, fs, rfl, _⟩ := h
    rfl
  · obtain ⟨l, tabs, fs, rfl, hL, k⟩ := h
    refine ⟨_, (pss_cons (ps_set (i := 1) sc_filled.nd rfl (Or.inl rfl) (pe_lstS pa_nil))
  (pss_cons (ps_for PassesOwn.never rfl (pi_list (pv 0)) (pg_name (i := 2) sc_filled.nd rfl (Or.inl rfl)) (pss_one (ps_if (pt_cmpR op_eq (pe_slice sl_str (pv 2) po_none (po_some pe_int)) pe_str (nomark _)) (pss_one (ps_set (i := 1) sc_filled.nd rfl (Or.inl rfl) (pe_op op_catS (pv 1) (pe_call (ok_led_from T B) (hr.mono (by decide)) rfl T.g_led_from T.F_led_from.kp T.b_led_from .nil pass0 (pa_cons (pv 0) (pa_cons (pe_ix ix_list (pe_split (pv 2) pe_str) pe_int (fun _ _ => rfl)) pa_nil)))))) pss_nil)))
  (pss_one (ps_ret (pv 1))))), ?_⟩
    have hlen := hL.len
    have hll : (linesV fs).length = fs.length := List.length_map ..
    refine ⟨(by show 0 ≤ sizeLine; decide), fun a0 H0 n0 s0 e0 => ?_⟩
    refine ⟨_, rfl, l, rfl, ⟨_, SqL.of (s0 _ _ hL.lst)⟩, ?_⟩
    refine for_list (xs := linesV fs) (fun j σ H' => ∃ (ad : Addr) (v2 : Option V), σ = [some (.ref l), some (.ref ad), v2] ∧ Same H H' ∧ H ad = none ∧ H' ad = some (.lst ((filledM fs (fs.take j)).map V.str)) ∧ (filledM fs (fs.take j)).length ≤ 145 * j)
      ⟨a0, none, rfl, s0, n0, e0, Nat.le_refl _⟩ (fun j σ H' _ ⟨_, _, _, s, _⟩ => SqL.of (s _ _ hL.lst)) ?_ ?_
    · rintro j v σ H2 hj ⟨ad, v2, rfl, s2, na, e2, hS2⟩
      have hjl : j < fs.length := by
        rcases Nat.lt_or_ge j fs.length with h | h
        · exact h
        · rw [List.getElem?_eq_none (by omega)] at hj; cases hj
      unfold linesV at hj
      rw [List.getElem?_map, List.getElem?_eq_getElem hjl] at hj
      cases hj
      have hf := hL.fct _ (List.getElem_mem hjl)
      have es : filledM fs (fs.take (j + 1)) = if fs[j].1 = ("filled" : Str) then filledM fs (fs.take j) ++ led fs fs[j].2.1.1 else filledM fs (fs.take j) := by
        unfold filledM
        rw [List.take_add_one, List.getElem?_eq_getElem hjl, List.foldl_append]; rfl
      generalize filledM fs (fs.take j) = S at e2 hS2 es
      generalize fs[j] = f at hf es
      have hsz := line_len hL.good hf
      refine ⟨_, rfl, 7, rfl, _, rfl, by rw [sizeLine_eq]; omega, rfl, _, rfl, ?_⟩
      have ec : decide (V.str (cutS (lineT f) none (some 7)) = V.str "filled ") = decide (f.1 = ("filled" : Str)) := by rw [cmp_text, cut_filled hf]
      rw [ec]
      by_cases c : f.1 = ("filled" : Str)
      · rw [decide_eq_true c]
        rw [if_pos c] at es
        have hws := line_split hL.good hf
        cases hf with
        | @column x w hx hw => exact absurd (show w = ("filled" : Str) from c) (by rcases hw with rfl | rfl <;> decide +kernel)
        | found hx hy => exact absurd (show ("found" : Str) = ("filled" : Str) from c) (by decide +kernel)
        | @table t w ht hw' =>
          refine iteT ⟨_, rfl, _, rfl, _, rfl, ⟨_, rfl⟩, _, _, rfl, rfl, by decide, two_sz (by omega), fun p0 np0 => ?_⟩
          rw [hws]
          have s3 : Same H2 (upd H2 p0 (.lst ((words (w, (t.1, none), none)).map V.str))) := Same.new (Same.refl _) np0
          have e3 : (upd H2 p0 (.lst ((words (w, (t.1, none), none)).map V.str))) p0 = some (.lst ([w, t.1].map V.str)) := upd_same
          generalize upd H2 p0 (.lst ((words (w, (t.1, none), none)).map V.str)) = H3 at s3 e3
          refine ⟨p0, _, 1, _, rfl, rfl, SqL.of e3, atI_nat (k := 1) rfl, l, t.1, tabs, fs, rfl, hL.same (s2.trans s3), fun r H4 n4 s4 e4 _ => ?_⟩
          have hl := led_len (t := t.1) hlen
          refine ⟨ad, r, _, _, rfl, rfl, (s3.trans s4) _ _ e2, e4, by rw [List.length_map, List.length_map, sizeLine_eq]; omega, fun r2 H5 n5 s5 e5 => ?_⟩
          rw [← List.map_append] at e5
          have s25 := (s3.trans s4).trans s5
          refine ⟨r2, _, rfl, s2.trans s25, free_of ((s2.trans s3).trans s4) n5, by rw [es]; exact e5, ?_⟩
          rw [es, List.length_append]
          show S.length + (led fs t.1).length ≤ _
          omega
      · rw [decide_eq_false c]
        rw [if_neg c] at es
        exact iteF ⟨ad, _, rfl, s2, na, by rw [es]; exact e2, by rw [es]; omega⟩
    · rintro σ H1 ⟨ad, v2, rfl, s1, na, e1, hS⟩
      rw [hll, List.take_length] at e1 hS
      exact ⟨_, rfl, k ad H1 na s1 e1 (by omega)⟩
/-- pairs of columns, as they are written -/
def PairsAt (H : Hp) (r : Addr) (L : CL) : Prop := ∃ qs : List Addr, H r = some (.lst (qs.map V.ref)) ∧ Paired (fun q (p : CP × CP) => H q = some (.tup [.str (sp p.1), .str (sp p.2)])) qs L
def sp_found_pairs : Sp := fun vs H Q _ => ∃ (l : Addr) (tabs : Tabs) (fs : List Fact), vs = [.ref l] ∧ LinesAt H l tabs fs ∧ ∀ r H', H r = none → Same H H' → PairsAt H' r (colL fs) → Q (.ref r) H'
theorem ok_found_pairs (T : TX K mg) (B : TB T base) : FnOk P w K mg base CX0 1 T.a_found_pairs T.fd_found_pairs p_found_pairs sp_found_pairs := by
  refine T.F_found_pairs.ok sc_found_pairs (fun vs H Q E h => ?_) (fun cdv A outer s H vs Q E hr h => ?_)
  · obtain ⟨l, tabs, fs, rfl, _⟩ := h
    rfl
  · obtain ⟨l, tabs, fs, rfl, hL, k⟩ := h
    refine ⟨_, (pss_one (ps_ret (pe_lc (own := [("_law_line", 1)]) (g := gName 1) (tt := _) rfl sc_found_pairs.nd (pi_list (pv 0)) (blkOk_by (own := [("_law_line", 1)]) (N := n_found_pairs) (sc := defScope s_found_pairs) (by decide +kernel)) (fun _ _ _ _ _ => (pg_name (i := 1) sc_found_pairs.nd rfl (Or.inl rfl))) (fun _ _ _ _ _ => pts_one (pt_cmpR op_eq (pe_slice sl_str (pv 1) po_none (po_some pe_int)) pe_str (nomark _))) (fun _ _ _ _ _ => (pe_tupS (pa_cons (pe_ix (ix_listK (K := K)) (pe_split (pv 1) pe_str) pe_int (fun _ _ => rfl)) (pa_cons (pe_ix (ix_listK (K := K)) (pe_split (pv 1) pe_str) pe_int (fun _ _ => rfl)) pa_nil))))))), ?_⟩
    have hlen := hL.len
    refine ⟨_, rfl, l, rfl, ⟨_, SqL.of hL.lst⟩, fun D hD => ?_⟩
    refine lc_grow (n := fs.length) hD (fun i acc H' => ∃ ps : List Addr, acc = ps.map V.ref ∧ Paired (fun q (p : CP × CP) => H' q = some (.tup [.str (sp p.1), .str (sp p.2)])) ps (colL (fs.take i))) (fun i acc H' o ⟨ps, e, h⟩ hu => ⟨ps, e, Paired.mapP h fun q p z => tups_keep hu _ _ z⟩) (fun _ _ => ⟨[], rfl, .nil⟩)
      (fun i H' hi s1 => ⟨_, V.str (lineT (fs[i]'hi)), SqL.of (s1 _ _ hL.lst), by unfold linesV; rw [List.getElem?_map, List.getElem?_eq_getElem hi]; rfl⟩) (fun H' s1 => ⟨_, SqL.of (s1 _ _ hL.lst), by unfold linesV; rw [List.length_map]; omega⟩) (small1000 (by omega)) (fun i acc H' F G hF hG hi s1 hacc hp v H2 yl => ?_) (fun acc H' s1 ha ⟨ps, e, hps⟩ => ?_)
    · obtain ⟨ps, rfl, hps⟩ := hp
      obtain ⟨eH, ev⟩ := yl
      subst eH
      have ev := ev _ (SqL.of (s1 _ _ hL.lst))
      unfold linesV at ev
      rw [List.getElem?_map, List.getElem?_eq_getElem hi] at ev
      cases ev
      have hf := hL.fct _ (List.getElem_mem hi)
      have es : colL (fs.take (i + 1)) = colL (fs.take i) ++ (linkC fs[i]).toList := take_succ_map hi
      generalize fs[i] = f at hf es
      have hsz := line_len hL.good hf
      refine ⟨rfl, ?_⟩
      refine ⟨_, rfl, 6, rfl, _, rfl, by rw [sizeLine_eq]; omega, rfl, _, rfl, ?_⟩
      have ec : decide (V.str (cutS (lineT f) none (some 6)) = V.str "found ") = decide (f.1 = ("found" : Str)) := by rw [cmp_text, cut_found hf]
      rw [ec]
      by_cases c : f.1 = ("found" : Str)
      · rw [decide_eq_true c]
        have hws := line_split hL.good hf
        cases hf with
        | @table t w ht hw => exact absurd (show w = ("found" : Str) from c) (by rcases hw with rfl | rfl <;> decide +kernel)
        | @column x w hx hw => exact absurd (show w = ("found" : Str) from c) (by rcases hw with rfl | rfl <;> decide +kernel)
        | @found x y hx hy =>
          have el : linkC (("found" : Str), (x.1, some x.2), some (y.1, some y.2)) = some (x, y) := if_pos rfl
          refine iteT ⟨_, rfl, ⟨_, rfl⟩, _, _, rfl, rfl, by decide, two_sz (by omega), fun p0 np0 => ?_⟩
          rw [hws]
          have s3 : Same H2 (upd H2 p0 (.lst ((words (("found" : Str), (x.1, some x.2), some (y.1, some y.2))).map V.str))) := Same.new (Same.refl _) np0
          have e3 : (upd H2 p0 (.lst ((words (("found" : Str), (x.1, some x.2), some (y.1, some y.2))).map V.str))) p0 = some (.lst ([("found" : Str), sp x, ("in" : Str), sp y].map V.str)) := upd_same
          generalize upd H2 p0 (.lst ((words (("found" : Str), (x.1, some x.2), some (y.1, some y.2))).map V.str)) = H3 at s3 e3
          refine ⟨p0, _, 1, _, rfl, rfl, SqL.of e3, atI_nat (k := 1) rfl, _, rfl, ⟨_, rfl⟩, _, _, rfl, rfl, by decide, two_sz (by omega), fun p1 np1 => ?_⟩
          rw [hws]
          have s4 : Same H3 (upd H3 p1 (.lst ((words (("found" : Str), (x.1, some x.2), some (y.1, some y.2))).map V.str))) := Same.new (Same.refl _) np1
          have e4 : (upd H3 p1 (.lst ((words (("found" : Str), (x.1, some x.2), some (y.1, some y.2))).map V.str))) p1 = some (.lst ([("found" : Str), sp x, ("in" : Str), sp y].map V.str)) := upd_same
          generalize upd H3 p1 (.lst ((words (("found" : Str), (x.1, some x.2), some (y.1, some y.2))).map V.str)) = H4 at s4 e4
          refine ⟨p1, _, 3, _, rfl, rfl, SqL.of e4, atI_nat (k := 3) rfl, (by show 2 ≤ sizeLine; decide), fun r H5 n5 s5 e5 => ?_⟩
          have s25 := (s3.trans s4).trans s5
          refine hF _ H5 s25 ⟨ps ++ [r], by rw [List.map_append]; rfl, ?_⟩
          rw [es, el]
          exact paired_snc (Paired.mapP hps fun q p z => s25 _ _ z) e5
      · rw [decide_eq_false c]
        refine iteF (hG _ (Same.refl _) ⟨ps, rfl, ?_⟩)
        have el : linkC f = none := by unfold linkC; rw [if_neg c]
        rw [es, el, Option.toList_none, List.append_nil]
        exact hps
    · rw [List.take_length] at hps
      subst e
      exact k D H' hD s1 ⟨ps, ha, hps⟩
end
end L2.Pf
set_option maxHeartbeats 2000000
namespace L2.Pf
open PySem PySem.Spec PyProof.Rows L2.Ev L2.Tpd L2.Seti L2.Gq L2.Enf L2.Sett L2.Itr L2.Dls L2.Own L2.Dsp L2.Dcs L2.Vls L2.Ent
section
variable {P : Program} {w : World} {K : PySem.W.Frag} {mg : Str → Option Value} {base : Heap}
def spV (x : CP) : V := .str (sp x)
theorem spots_in {tabs : Tabs} (G : ∀ t ∈ tabs, GoodTab t) {S : List CP} {x : CP} (hS : ∀ y ∈ S, Col tabs y) (hx : Col tabs x) : inV (.str (sp x)) (S.map spV) = decide (x ∈ S) :=
  (strs_in sp (Col tabs) (fun _ _ a b e => sp_inj (a.nm G) (b.nm G) e) hS hx).trans (decide_eq_decide.mpr Iff.rfl)
theorem names_in {S : List Str} {x : Str} : inV (.str x) (S.map V.str) = decide (x ∈ S) := by
  by_cases h : x ∈ S
  · rw [decide_eq_true h]; exact mem_inV.mpr h
  · rw [decide_eq_false h]; exact Bool.eq_false_iff.mpr fun q => h (mem_inV.mp q)
theorem flat_sp (S : List CP) : (S.map spV).all flatV = true := all_strs sp S
theorem cat_sz {x y : Str} {m n : Nat} (hx : x.length ≤ m) (hy : y.length ≤ n) (h : m + n ≤ 100000) : x.length + y.length ≤ sizeLine := by rw [sizeLine_eq]; omega
theorem fold_take {α β : Type} {f : β → α → β} {l : List α} {j : Nat} (h : j < l.length) (S : β) : (l.take (j + 1)).foldl f S = f ((l.take j).foldl f S) l[j] := by
  rw [List.take_add_one, List.getElem?_eq_getElem h, List.foldl_append]; rfl
def sp_fixed : Sp := fun vs H Q _ => ∃ (at_ l : Addr) (qs : List Addr) (tabs : Tabs) (fs : List Fact), vs = [.ref at_, .ref l] ∧ H at_ = some (.lst (qs.map V.ref)) ∧ Paired (TabAt H) qs tabs ∧ LinesAt H l tabs fs ∧
  ∀ r o s H', H r = none → Same H H' → H' r = some (.tup [.ref o, .ref s]) → H' o = some (.lst ((fixedM tabs fs).1.map V.str)) → H' s = some (.lst ((fixedM tabs fs).2.map spV)) → (fixedM tabs fs).1.length ≤ 100 → (fixedM tabs fs).2.length ≤ 1000 → Q (.ref r) H'
theorem ok_fixed (T : TX K mg) (B : TB T base) : FnOk P w K mg base CX0 2 T.a_fixed T.fd_fixed p_fixed sp_fixed := by
  refine T.F_fixed.ok sc_fixed (fun vs H Q E h => ?_) (fun cdv A outer s H vs Q E hr h => ?_)
  · obtain ⟨at_, l, qs, tabs, fs, rfl, _⟩ := h
    rfl
  · obtain ⟨at_, l, qs, tabs, fs, rfl, hat, hT, hL, k⟩ := h
    refine ⟨_, (pss_cons (ps_asg (pe_tupS (pa_cons (pe_lstS pa_nil) (pa_cons (pe_lstS pa_nil) pa_nil))) (pg_tup rfl (pgs_cons (pg_name (i := 2) sc_fixed.nd rfl (Or.inl rfl)) (pgs_cons (pg_name (i := 3) sc_fixed.nd rfl (Or.inr rfl)) pgs_nil))))
  (pss_cons (ps_for PassesOwn.never rfl (pi_range1 (by rfl) T.z_range (pa_cons pe_int pa_nil)) (pg_name (i := 4) sc_fixed.nd rfl (Or.inl rfl)) (pss_cons (ps_for PassesOwn.never rfl (pi_list (pv 0)) (pg_tup rfl (pgs_cons (pg_name (i := 5) sc_fixed.nd rfl (Or.inr rfl)) (pgs_cons (pg_name (i := 6) sc_fixed.nd rfl (Or.inl rfl)) pgs_nil))) (pss_cons (ps_setLc (i := 7) (own := [("_law_column", 8)]) (g := gName 8) (tt := tYes) rfl sc_fixed.nd rfl rfl (sw_true rfl rfl rfl (by decide +kernel)) (pi_list (pv 6)) (blkOk_by (own := [("_law_column", 8)]) (N := n_fixed) (sc := defScope s_fixed) (by decide +kernel)) (fun _ _ _ _ _ => (pg_name (i := 8) sc_fixed.nd rfl (Or.inl rfl))) (fun _ _ _ _ _ => pts_nil) (fun _ _ _ _ _ => (pe_op op_add_str (pe_op op_add_str (pv 5) pe_str) (pv 8))))
  (pss_cons (ps_setLc (i := 9) (own := [("_law_spot_here", 10)]) (g := gName 10) (tt := _) rfl sc_fixed.nd rfl rfl (sw_true rfl rfl rfl (by decide +kernel)) (pi_list (pv 7)) (blkOk_by (own := [("_law_spot_here", 10)]) (N := n_fixed) (sc := defScope s_fixed) (by decide +kernel)) (fun _ _ _ _ _ => (pg_name (i := 10) sc_fixed.nd rfl (Or.inl rfl))) (fun _ _ _ _ _ => pts_one (PW.pt (pw_and (pt_cmpR (op_inK (K := K)) (pv 10) (pv 3) (by rfl)) (pw_and1 (pt_cmpR (op_inK (K := K)) (pe_op op_add_str pe_str (pv 10)) (pv 1) (by rfl)))))) (fun _ _ _ _ _ => (pv 10)))
  (pss_join (ps_if (PW.pt (pw_or (pt_cmpR op_in_seq (pe_op op_add_str pe_str (pv 5)) (pv 1) (by rfl)) (pw_or1 (pt_cmpR (op_neNil hr.units0) (pv 9) (pe_lstS pa_nil) (nomark _))))) (pss_one (ps_expr (pe_bm PySem.F.plainAttrs_list PySem.F.slot_list_append PySem.F.type_list_append mt_appendS (pv 2) (pa_cons (pv 5) pa_nil)))) pss_nil)
  (pss_one (ps_set (i := 3) sc_fixed.nd rfl (Or.inr rfl) (pe_op op_catS (pv 3) (pe_ifExp (pt_cmpR op_in_seq (pv 5) (pv 2) (by rfl)) (pv 7) (pe_lstS pa_nil)))))))))
  (pss_one (ps_set (i := 3) sc_fixed.nd rfl (Or.inr rfl) (pe_op op_catS (pv 3) (pe_lc (own := [("_law_one", 11), ("_law_two", 12)]) (g := gTup K 2 (gCons (gName 11) (gCons (gName 12) gNil))) (tt := _) rfl sc_fixed.nd (pi_list (pe_call (ok_found_pairs T B) (hr.mono (by decide)) rfl T.g_found_pairs T.F_found_pairs.kp T.b_found_pairs .nil pass0 (pa_cons (pv 1) pa_nil))) (blkOk_by (own := [("_law_one", 11), ("_law_two", 12)]) (N := n_fixed) (sc := defScope s_fixed) (by decide +kernel)) (fun _ _ _ _ _ => (pg_tup rfl (pgs_cons (pg_name (i := 11) sc_fixed.nd rfl (Or.inl rfl)) (pgs_cons (pg_name (i := 12) sc_fixed.nd rfl (Or.inl rfl)) pgs_nil)))) (fun _ _ _ _ _ => pts_one (pt_cmpR (op_inK (K := K)) (pv 12) (pv 3) (by rfl))) (fun _ _ _ _ _ => (pv 11))))))))
  (pss_one (ps_ret (pe_tupS (pa_cons (pv 2) (pa_cons (pv 3) pa_nil))))))), ?_⟩
    have G := hL.good
    have hlen := hL.len
    have hfew := hL.few
    have hql := Paired.length hT
    have hcl := colL_len fs
    refine ⟨(by show 0 ≤ sizeLine; decide), fun o H0 n0 s0 e0 => ⟨(by show 0 ≤ sizeLine; decide), fun a0 H1 n1 s1 e1 => ⟨(by show 2 ≤ sizeLine; decide), fun tp H2 n2 s2 e2 => ?_⟩⟩⟩
    refine ⟨tp, _, rfl, SqT.of e2, rfl, _, _, rfl, _, _, rfl, rfl, ?_⟩
    have s02 := (s0.trans s1).trans s2
    have colOf : ∀ {S : OS}, (∀ x ∈ S.2, Col tabs x) → ∀ {t}, t ∈ tabs → ∀ x ∈ (fixTab fs S t).2, Col tabs x := fun {S} h {t} ht x hx => by
      rcases fixTab_s.mp hx with h2 | ⟨_, h2⟩
      · exact h x h2
      · obtain ⟨y, hy, rfl⟩ := List.mem_map.mp h2
        exact ⟨t, ht, rfl, hy⟩
    refine ⟨16, rfl, by decide, by decide, ?_⟩
    refine for_range (lo := 0) (n := 16) (fun i σ H' => ∃ (as : Addr) (v4 v5 v6 v7 v8 v9 v10 v11 v12 : Option V) (S : OS), σ = [some (.ref at_), some (.ref l), some (.ref o), some (.ref as), v4, v5, v6, v7, v8, v9, v10, v11, v12] ∧ Same H H' ∧ as ≠ o ∧ S = rounds (fixRound tabs fs) i ([], []) ∧ H' o = some (.lst (S.1.map V.str)) ∧ H' as = some (.lst (S.2.map spV)) ∧ S.1.length ≤ 4 * i ∧ S.2.length ≤ 24 * i ∧ ∀ x ∈ S.2, Col tabs x)
      ⟨a0, none, none, none, none, none, none, none, none, none, ([], []), rfl, s02, (fun z => by rw [z, e0] at n1; cases n1), rfl, s2 _ _ (s1 _ _ e0), s2 _ _ e1, Nat.le_refl _, Nat.le_refl _, fun x hx => by cases hx⟩ ?_ ?_
    · rintro i σ H3 hi ⟨as, v4, v5, v6, v7, v8, v9, v10, v11, v12, S0, rfl, s3, nao, hS0, eo, es, lo, ls, cs⟩
      refine ⟨_, rfl, at_, rfl, ⟨_, SqL.of (s3 _ _ hat)⟩, ?_⟩
      refine for_list (xs := qs.map V.ref) (fun j σ H' => ∃ (as : Addr) (v5 v6 v7 v8 v9 v10 : Option V) (S : OS), σ = [some (.ref at_), some (.ref l), some (.ref o), some (.ref as), some (.int (0 + (i : Int))), v5, v6, v7, v8, v9, v10, v11, v12] ∧ Same H H' ∧ as ≠ o ∧ S = (tabs.take j).foldl (fixTab fs) S0 ∧ H' o = some (.lst (S.1.map V.str)) ∧ H' as = some (.lst (S.2.map spV)) ∧ S.1.length ≤ 4 * i + j ∧ S.2.length ≤ 24 * i + 3 * j ∧ ∀ x ∈ S.2, Col tabs x)
        ⟨as, v5, v6, v7, v8, v9, v10, S0, rfl, s3, nao, rfl, eo, es, lo, ls, cs⟩ (fun j σ H' _ ⟨_, _, _, _, _, _, _, _, _, s, _⟩ => SqL.of (s _ _ hat)) ?_ ?_
      · rintro j v σ H4 hj ⟨as, v5, v6, v7, v8, v9, v10, S, rfl, s4, nao, hS, eo, es, lo, ls, cs⟩
        have hjl : j < tabs.length := by
          rcases Nat.lt_or_ge j tabs.length with h | h
          · exact h
          · rw [List.getElem?_eq_none (by rw [List.length_map]; omega)] at hj; cases hj
        rw [List.getElem?_map, List.getElem?_eq_getElem (show j < qs.length by omega)] at hj
        cases hj
        have ht := List.getElem_mem hjl
        obtain ⟨cl, g1, g2⟩ := paired_at hT (List.getElem?_eq_getElem (show j < qs.length by omega)) (List.getElem?_eq_getElem hjl)
        have hS' : (tabs.take (j + 1)).foldl (fixTab fs) S0 = fixTab fs S tabs[j] := by rw [fold_take hjl, ← hS]
        have hcf := colOf cs ht
        generalize tabs[j] = t at g1 g2 hS' ht hcf
        have Gt := G t ht
        have hnm := nm_len Gt.name
        have h3 := Gt.few
        have hown : ∀ x ∈ ownC t, Col tabs x := fun x hx => by
          obtain ⟨y, hy, rfl⟩ := List.mem_map.mp hx
          exact ⟨t, ht, rfl, hy⟩
        have hownl : (ownC t).length = t.2.length := List.length_map ..
        refine ⟨_, _, rfl, SqT.of (s4 _ _ g1), rfl, _, _, rfl, _, _, rfl, rfl, ?_⟩
        -- own
        refine ⟨_, rfl, cl, rfl, ⟨_, SqL.of (s4 _ _ g2)⟩, fun ow hw => ?_⟩
        refine lc_grow (n := t.2.length) hw (fun i acc H' => acc = ((ownC t).take i).map spV) (fun i acc H' o hp _ => hp) (fun _ _ => rfl)
          (fun i H' hi s1 => ⟨_, V.str (t.2[i]'hi), SqL.of (s1 _ _ (s4 _ _ g2)), by rw [List.getElem?_map, List.getElem?_eq_getElem hi]; rfl⟩) (fun H' s1 => ⟨_, SqL.of (s1 _ _ (s4 _ _ g2)), by rw [List.length_map]; omega⟩) (small1000 (by omega)) (fun i acc H' F G' hF hG hi s1 hacc hp v H2 yl => ?_) (fun acc H5 s5 e5 hpa => ?_)
        · obtain ⟨eH, ev⟩ := yl
          subst eH
          have ev := ev _ (SqL.of (s1 _ _ (s4 _ _ g2)))
          rw [List.getElem?_map, List.getElem?_eq_getElem hi] at ev
          cases ev
          have hy := nm_len (Gt.cols _ (List.getElem_mem hi))
          have b1 : (t.1 ++ ("." : Str)).length ≤ 13 := by
            rw [TL.len_tl, TL.tl_append, List.length_append, ← TL.len_tl, ← TL.len_tl]
            have z : ("." : Str).length ≤ 1 := by decide +kernel
            omega
          refine ⟨rfl, ?_⟩
          refine ⟨_, rfl, _, _, rfl, rfl, cat_sz hnm (show ("." : Str).length ≤ 1 by decide +kernel) (by decide), _, rfl, _, _, rfl, rfl, cat_sz b1 hy (by decide), hF _ _ (Same.refl _) ?_⟩
          have hio : i < (ownC t).length := by omega
          rw [hp, List.take_add_one, List.getElem?_eq_getElem hio, List.map_append]
          congr 1
          have eo : (ownC t)[i] = (t.1, t.2[i]) := by simp [ownC]
          rw [eo]; rfl
        rw [← hownl, List.take_length] at hpa
        subst hpa
        have s45 := s4.trans s5
        -- sharp
        have go5 := s5 _ _ eo
        have gs5 := s5 _ _ es
        refine ⟨_, rfl, ow, rfl, ⟨_, SqL.of e5⟩, fun sh hsh => ?_⟩
        refine lc_grow (n := (ownC t).length) hsh (fun i acc H' => acc = (((ownC t).take i).filter fun x => decide (x ∈ S.2 ∧ uniqF x ∈ fs)).map spV) (fun i acc H' o hp _ => hp) (fun _ _ => rfl)
          (fun i H' hi s1 => ⟨_, spV ((ownC t)[i]'hi), SqL.of (s1 _ _ e5), by rw [List.getElem?_map, List.getElem?_eq_getElem hi]; rfl⟩) (fun H' s1 => ⟨_, SqL.of (s1 _ _ e5), by rw [List.length_map]; omega⟩) (small1000 (by omega)) (fun i acc H' F G' hF hG hi s1 hacc hp v H2 yl => ?_) (fun acc H6 s6 e6 hpa => ?_)
        · obtain ⟨eH, ev⟩ := yl
          subst eH
          have ev := ev _ (SqL.of (s1 _ _ e5))
          rw [List.getElem?_map, List.getElem?_eq_getElem hi] at ev
          cases ev
          have hx := hown _ (List.getElem_mem hi)
          have et : ((ownC t).take (i + 1)).filter (fun x => decide (x ∈ S.2 ∧ uniqF x ∈ fs)) = ((ownC t).take i).filter (fun x => decide (x ∈ S.2 ∧ uniqF x ∈ fs)) ++ if decide ((ownC t)[i] ∈ S.2 ∧ uniqF (ownC t)[i] ∈ fs) = true then [(ownC t)[i]] else [] := by
            rw [List.take_add_one, List.getElem?_eq_getElem hi, List.filter_append]
            congr 1
            show List.filter _ [(ownC t)[i]] = _
            rw [List.filter_cons]; rfl
          generalize (ownC t)[i] = x at hx et
          have hsl := sp_len (hx.nm G)
          have huf : Fct tabs (uniqF x) := .column hx (.inl rfl)
          have hun : inV (.str (("unique " : Str) ++ sp x)) (linesV fs) = decide (uniqF x ∈ fs) := by
            rw [← line_in G hL.nd hL.fct huf]
            show inV (.str (("unique " : Str) ++ sp x)) _ = inV (.str (("unique" : Str) ++ " " ++ sp (x.1, x.2))) _
            rw [show ("unique " : Str) = ("unique" : Str) ++ " " by decide +kernel]
          refine ⟨rfl, ?_⟩
          have hS2 := s45.trans s1
          refine ⟨_, rfl, _, rfl, as, _, rfl, .inl (SqL.of (s1 _ _ gs5)), rfl, flat_sp _, decide (x ∈ S.2), congrArg V.bl (spots_in G cs hx), ?_⟩
          by_cases c1 : x ∈ S.2
          · rw [decide_eq_true c1]
            refine iteT ⟨_, rfl, _, _, rfl, rfl, cat_sz (show ("unique " : Str).length ≤ 7 by decide +kernel) hsl (by decide), _, rfl, l, _, rfl, .inl (SqL.of (hS2 _ _ hL.lst)), rfl, flat_lines _, decide (uniqF x ∈ fs), congrArg V.bl hun, ?_⟩
            by_cases c2 : uniqF x ∈ fs
            · rw [decide_eq_true c2]
              refine iteT ⟨_, rfl, hF _ _ (Same.refl _) ?_⟩
              rw [et, if_pos (decide_eq_true ⟨c1, c2⟩), hp, List.map_append]; rfl
            · rw [decide_eq_false c2]
              refine iteF (hG _ (Same.refl _) ?_)
              rw [et, if_neg (by rw [decide_eq_false (fun h => c2 h.2)]; decide), List.append_nil, hp]
          · rw [decide_eq_false c1]
            refine iteF (iteF (hG _ (Same.refl _) ?_))
            rw [et, if_neg (by rw [decide_eq_false (fun h => c1 h.1)]; decide), List.append_nil, hp]
        rw [List.take_length] at hpa
        subst hpa
        have s46 := s45.trans s6
        have go6 := s6 _ _ go5
        have gs6 := s6 _ _ gs5
        have e56 := s6 _ _ e5
        have nwo : ow ≠ o := fun z => by rw [z, eo] at hw; cases hw
        have noH : H o = none := by
          rcases hx : H o with _ | u
          · rfl
          · rw [hx] at n0; cases n0
        have hsf : Fct tabs (singF t.1) := .table ht (.inl rfl)
        have hsn : inV (.str (("single " : Str) ++ t.1)) (linesV fs) = decide (singF t.1 ∈ fs) := by
          rw [← line_in G hL.nd hL.fct hsf]
          show inV (.str (("single " : Str) ++ t.1)) _ = inV (.str (("single" : Str) ++ " " ++ t.1)) _
          rw [show ("single " : Str) = ("single" : Str) ++ " " by decide +kernel]
        have eF : (fixTab fs S t).1 = addIf (decide (singF t.1 ∈ fs ∨ sharp fs S.2 t ≠ [])) S.1 t.1 := rfl
        have lF : (fixTab fs S t).1.length ≤ 4 * i + (j + 1) := by
          rw [eF]
          have z := addIf_len (c := decide (singF t.1 ∈ fs ∨ sharp fs S.2 t ≠ [])) (S := S.1) (y := t.1)
          omega
        refine ⟨fun σ' H' => ∃ H6', σ' = [some (.ref at_), some (.ref l), some (.ref o), some (.ref as), some (.int (0 + (i : Int))), some (.str t.1), some (.ref cl), some (.ref ow), v8, some (.ref sh), v10, v11, v12] ∧ Same H6 H6' ∧ But o H6' H' ∧ H' o = some (.lst ((fixTab fs S t).1.map V.str)), ?_, ?_⟩
        · have yes : ∀ H7, Same H6 H7 → (singF t.1 ∈ fs ∨ sharp fs S.2 t ≠ []) → ∀ H8, But o H7 H8 → H8 o = some (.lst (S.1.map V.str ++ [V.str t.1])) → H8 o = some (.lst ((fixTab fs S t).1.map V.str)) := fun H7 s7 c H8 b8 e8 => by
            rw [e8, eF, decide_eq_true c]
            unfold addIf
            rw [if_pos rfl, List.map_append]; rfl
          have app : ∀ H7, Same H6 H7 → (singF t.1 ∈ fs ∨ sharp fs S.2 t ≠ []) → _ := fun H7 s7 c => yes H7 s7 c
          refine ⟨_, rfl, _, _, rfl, rfl, cat_sz (show ("single " : Str).length ≤ 7 by decide +kernel) hnm (by decide), _, rfl, l, _, rfl, .inl (SqL.of (s46 _ _ hL.lst)), rfl, flat_lines _, decide (singF t.1 ∈ fs), congrArg V.bl hsn, ?_⟩
          by_cases c1 : singF t.1 ∈ fs
          · rw [decide_eq_true c1]
            refine iteT (iteT ⟨_, rfl, .inl ⟨rfl, _, SqL.of go6⟩, _, rfl, o, _, _, rfl, rfl, go6, small1000 (by rw [List.length_map]; omega), fun H8 b8 e8 => ⟨H6, rfl, Same.refl _, b8, yes H6 (Same.refl _) (.inl c1) H8 b8 e8⟩⟩)
          · rw [decide_eq_false c1]
            refine iteF ⟨_, rfl, (by show 0 ≤ sizeLine; decide), fun lz H7 nz s7 ez => ?_⟩
            refine ⟨sh, lz, _, rfl, rfl, SqL.of (s7 _ _ e6), SqL.of ez, ?_⟩
            cases hsh : sharp fs S.2 t with
            | nil =>
              have e0 : ((ownC t).filter fun x => decide (x ∈ S.2 ∧ uniqF x ∈ fs)) = [] := hsh
              rw [e0]
              refine ⟨false, rfl, iteF ⟨H7, rfl, s7, But.refl _ _, ?_⟩⟩
              rw [s7 _ _ go6, eF, decide_eq_false (fun h => h.elim c1 fun z => z hsh)]; rfl
            | cons y r =>
              have e0 : ((ownC t).filter fun x => decide (x ∈ S.2 ∧ uniqF x ∈ fs)) = y :: r := hsh
              have c2 : singF t.1 ∈ fs ∨ sharp fs S.2 t ≠ [] := .inr (by rw [hsh]; exact fun z => by cases z)
              rw [e0]
              refine ⟨true, rfl, iteT ⟨_, rfl, .inl ⟨rfl, _, SqL.of (s7 _ _ go6)⟩, _, rfl, o, _, _, rfl, rfl, s7 _ _ go6, small1000 (by rw [List.length_map]; omega), fun H8 b8 e8 => ⟨H7, rfl, s7, b8, yes H7 s7 c2 H8 b8 e8⟩⟩⟩
        rintro σ5 H8 ⟨H7, rfl, s7, b8, eo8⟩
        have s67 := s46.trans s7
        have base8 : Same H H8 := fun q u e => b8 _ _ (fun z => by rw [z, noH] at e; cases e) (s67 _ _ e)
        have es8 : H8 as = some (.lst (S.2.map spV)) := b8 _ _ nao (s7 _ _ gs6)
        have ew8 : H8 ow = some (.lst ((ownC t).map spV)) := b8 _ _ nwo (s7 _ _ e56)
        have eF2 : (fixTab fs S t).2 = if t.1 ∈ (fixTab fs S t).1 then S.2 ++ ownC t else S.2 := rfl
        refine ⟨_, rfl, _, rfl, _, rfl, o, _, rfl, .inl (SqL.of eo8), rfl, all_strs _ _, decide (t.1 ∈ (fixTab fs S t).1), congrArg V.bl names_in, ?_⟩
        by_cases c : t.1 ∈ (fixTab fs S t).1
        · rw [decide_eq_true c]
          rw [if_pos c] at eF2
          refine iteT ⟨_, rfl, as, ow, _, _, rfl, rfl, es8, ew8, Nat.le_of_lt (small1000 (by rw [List.length_map, List.length_map]; omega)), fun r H9 n9 s9 e9 => ?_⟩
          rw [← List.map_append] at e9
          refine ⟨r, _, _, _, _, _, _, fixTab fs S t, rfl, base8.trans s9, (fun z => by rw [z, eo8] at n9; cases n9), hS'.symm, s9 _ _ eo8, by rw [eF2]; exact e9, lF, ?_, hcf⟩
          rw [eF2, List.length_append]; omega
        · rw [decide_eq_false c]
          rw [if_neg c] at eF2
          refine iteF ⟨(by show 0 ≤ sizeLine; decide), fun lz H9 n9 s9 e9 => ?_⟩
          refine ⟨as, lz, _, _, rfl, rfl, s9 _ _ es8, e9, Nat.le_of_lt (small1000 (by rw [List.length_map]; simp; omega)), fun r HA nA sA eA => ?_⟩
          rw [List.append_nil] at eA
          refine ⟨r, _, _, _, _, _, _, fixTab fs S t, rfl, (base8.trans s9).trans sA, (fun z => by rw [z, s9 _ _ eo8] at nA; cases nA), hS'.symm, sA _ _ (s9 _ _ eo8), by rw [eF2]; exact eA, lF, ?_, hcf⟩
          rw [eF2]; omega
      · rintro σ H4 ⟨as, v5, v6, v7, v8, v9, v10, S, rfl, s4, nao, hS, eo, es, lo, ls, cs⟩
        rw [List.length_map, hql] at hS lo ls
        rw [List.take_length] at hS
        refine ⟨_, rfl, _, rfl, l, tabs, fs, rfl, hL.same s4, fun r H5 n5 s5 ⟨ps, er, hps⟩ => ?_⟩
        have hpl := Paired.length hps
        refine ⟨r, rfl, ⟨_, SqL.of er⟩, fun D hD => ?_⟩
        have es5 := s5 _ _ es
        refine lc_grow (n := (colL fs).length) hD (fun i acc H' => acc = ((((colL fs).take i).filter fun p => decide (p.2 ∈ S.2)).map (·.1)).map spV) (fun i acc H' o hp _ => hp) (fun _ _ => rfl)
          (fun i H' hi s1 => ⟨_, V.ref (ps[i]'(by omega)), SqL.of (s1 _ _ er), by rw [List.getElem?_map, List.getElem?_eq_getElem (by omega)]; rfl⟩) (fun H' s1 => ⟨_, SqL.of (s1 _ _ er), by rw [List.length_map]; omega⟩) (small1000 (by omega)) (fun i acc H' F G' hF hG hi s1 hacc hp v H2 yl => ?_) (fun acc H6 s6 e6 hpa => ?_)
        · obtain ⟨eH, ev⟩ := yl
          subst eH
          have ev := ev _ (SqL.of (s1 _ _ er))
          rw [List.getElem?_map, List.getElem?_eq_getElem (show i < ps.length by omega)] at ev
          cases ev
          have e2 := paired_at hps (List.getElem?_eq_getElem (show i < ps.length by omega)) (List.getElem?_eq_getElem hi)
          have hcp := col_ok hL.fct (List.getElem_mem hi)
          have et : ((colL fs).take (i + 1)).filter (fun p => decide (p.2 ∈ S.2)) = ((colL fs).take i).filter (fun p => decide (p.2 ∈ S.2)) ++ if decide ((colL fs)[i].2 ∈ S.2) = true then [(colL fs)[i]] else [] := by
            rw [List.take_add_one, List.getElem?_eq_getElem hi, List.filter_append]
            congr 1
            show List.filter _ [(colL fs)[i]] = _
            rw [List.filter_cons]; rfl
          generalize (colL fs)[i] = p at e2 hcp et
          refine ⟨_, _, rfl, SqT.of (s1 _ _ e2), rfl, _, _, rfl, _, _, rfl, rfl, rfl, ?_⟩
          refine ⟨_, rfl, _, rfl, as, _, rfl, .inl (SqL.of (s1 _ _ es5)), rfl, flat_sp _, decide (p.2 ∈ S.2), congrArg V.bl (spots_in G cs hcp.2), ?_⟩
          by_cases c : p.2 ∈ S.2
          · rw [decide_eq_true c]
            refine iteT ⟨_, rfl, hF _ _ (Same.refl _) ?_⟩
            rw [et, if_pos (decide_eq_true c), hp, List.map_append, List.map_append]; rfl
          · rw [decide_eq_false c]
            refine iteF (hG _ (Same.refl _) ?_)
            rw [et, if_neg (by rw [decide_eq_false c]; decide), List.append_nil, hp]
        rw [List.take_length] at hpa
        subst hpa
        have hfl : (((colL fs).filter fun p => decide (p.2 ∈ S.2)).map (·.1)).length ≤ 12 := by
          rw [List.length_map]
          exact Nat.le_trans (List.length_filter_le _ _) (by omega)
        refine ⟨as, D, _, _, rfl, rfl, s6 _ _ es5, e6, Nat.le_of_lt (small1000 (by rw [List.length_map, List.length_map]; omega)), fun r2 H7 n7 s7 e7 => ?_⟩
        rw [← List.map_append] at e7
        have s47 := (s5.trans s6).trans s7
        have eo7 := s47 _ _ eo
        have hrd : rounds (fixRound tabs fs) (i + 1) ([], []) = fixLinks fs S := by
          show fixLinks fs (tabs.foldl (fixTab fs) (rounds (fixRound tabs fs) i ([], []))) = _
          rw [← hS0, ← hS]
        refine ⟨r2, _, _, _, _, _, _, _, _, _, fixLinks fs S, rfl, s4.trans s47, (fun z => by rw [z, (s5.trans s6) _ _ eo] at n7; cases n7), hrd.symm, eo7, e7, by show S.1.length ≤ _; omega, ?_, fun x hx => ?_⟩
        · show (S.2 ++ _).length ≤ _
          rw [List.length_append]; omega
        · rcases fixLinks_s.mp hx with h | ⟨y, h, _⟩
          · exact cs x h
          · exact (col_ok hL.fct h).1
    · rintro σ H3 ⟨as, v4, v5, v6, v7, v8, v9, v10, v11, v12, S0, rfl, s3, nao, hS0, eo, es, lo, ls, cs⟩
      refine ⟨_, rfl, _, rfl, (by show 2 ≤ sizeLine; decide), fun r H4 n4 s4 e4 => ?_⟩
      have hM : fixedM tabs fs = S0 := hS0.symm
      refine k r o as H4 (free_of s3 n4) (s3.trans s4) e4 ?_ ?_ ?_ ?_
      · rw [hM]; exact s4 _ _ eo
      · rw [hM]; exact s4 _ _ es
      · rw [hM]; omega
      · rw [hM]; omega
end
end L2.Pf
set_option maxHeartbeats 2000000
namespace L2.Pf
open PySem PySem.Spec PyProof.Rows L2.Ev L2.Tpd L2.Seti L2.Gq L2.Enf L2.Sett L2.Itr L2.Dls L2.Own L2.Dsp L2.Dcs L2.Vls L2.Ent
/-- s.split(".")[0], s a column -/
theorem split0 {K : PySem.W.Frag} {te : TE} {σ : L2.St} {H : Hp} {Q : VK} {x : CP} (hx : Nm x) (ht : ∀ Q2 : VK, Q2 (.str (sp x)) H → te σ H Q2) (k : ∀ H', Same H H' → Q (.str x.1) H') :
    tOp (rIxL K) (tM1 (fun x xs H Q => ∃ a b, x = .str a ∧ xs = [.str b] ∧ (b.length == 0) = false ∧ a.length + 2 ≤ sizeLine ∧ rNewStrs (Txt.split a b) H Q) te (tC (.str "."))) (tC (.int 0)) σ H Q := by
  refine ht _ ⟨⟨_, rfl⟩, _, _, rfl, rfl, by decide, two_sz (by have z := sp_len hx; omega), fun p1 np1 => ?_⟩
  rw [sp_split hx]
  exact ⟨p1, _, 0, _, rfl, rfl, SqL.of upd_same, atI_nat (k := 0) rfl, k _ (Same.new (Same.refl _) np1)⟩
/-- S + [y] * int(x in S and y not in S), of columns -/
theorem add_col {K : PySem.W.Frag} {tabs : Tabs} (G : ∀ t ∈ tabs, GoodTab t) {i a b : Nat} {σ : L2.St} {H : Hp} {Q : VK} {ad : Addr} {S : List CP} {x y : CP} (hi : σ[i]? = some (some (.ref ad))) (ha : σ[a]? = some (some (.str (sp x)))) (hb : σ[b]? = some (some (.str (sp y))))
    (hS : H ad = some (.lst (S.map spV))) (hc : ∀ z ∈ S, Col tabs z) (hx : Col tabs x) (hy : Col tabs y) (hl : S.length ≤ 100000)
    (k : ∀ r H', H r = none → Same H H' → H' r = some (.lst ((addIf (decide (x ∈ S ∧ y ∉ S)) S y).map spV)) → Q (.ref r) H') :
    tOp rCatS (tVar i) (tOp rRep (tLstS (tCons (tVar b) tNil)) (tCB (fun xs H Q => (∃ i, xs = [V.int i] ∧ Q (V.int i) H) ∨ ∃ k, xs = [V.bl k] ∧ Q (V.int (if k = true then 1 else 0)) H)
      (tCons (tAndV (tOp (rIn K false) (tVar a) (tVar i)) (tOp (rIn K true) (tVar b) (tVar i))) tNil))) σ H Q := by
  refine add_if (K := K) sp hi ha hb hS (strs_in sp (Col tabs) (fun _ _ a b e => sp_inj (a.nm G) (b.nm G) e) hc hx) (strs_in sp (Col tabs) (fun _ _ a b e => sp_inj (a.nm G) (b.nm G) e) hc hy) hl fun r H' n s e => k r H' n s ?_
  exact e.trans (congrArg (fun c => some (HO.lst ((addIf c S y).map spV))) (decide_eq_decide.mpr Iff.rfl))
theorem sameTwo_len {S : List CP} {p : CP × CP} : (sameTwo (sameOne S p) p).length ≤ S.length + 2 := by
  have a := addIf_len (c := decide (p.1 ∈ S ∧ p.2 ∉ S)) (S := S) (y := p.2)
  have b := addIf_len (c := decide (p.2 ∈ sameOne S p ∧ p.1 ∉ sameOne S p)) (S := sameOne S p) (y := p.1)
  unfold sameTwo
  unfold sameOne at b ⊢
  omega
section
variable {P : Program} {w : World} {K : PySem.W.Frag} {mg : Str → Option Value} {base : Heap}
def sp_same_value : Sp := fun vs H Q _ => ∃ (l sa ta : Addr) (tabs : Tabs) (fs : List Fact) (SP : List CP) (TH : List Str) (x : CP), vs = [.ref l, .ref sa, .str (sp x), .ref ta] ∧ LinesAt H l tabs fs ∧ H sa = some (.lst (SP.map spV)) ∧ H ta = some (.lst (TH.map V.str)) ∧ (∀ y ∈ SP, Col tabs y) ∧ Col tabs x ∧
  ∀ r H', H r = none → Same H H' → H' r = some (.lst ((sameM fs SP TH x).map spV)) → (sameM fs SP TH x).length ≤ 400 → (∀ y ∈ sameM fs SP TH x, Col tabs y) → Q (.ref r) H'
theorem ok_same_value (T : TX K mg) (B : TB T base) : FnOk P w K mg base CX0 2 T.a_same_value T.fd_same_value p_same_value sp_same_value := by
  refine T.F_same_value.ok sc_same_value (fun vs H Q E h => ?_) (fun cdv A outer s H vs Q E hr h => ?_)
  · obtain ⟨l, sa, ta, tabs, fs, SP, TH, x, rfl, _⟩ := h
    rfl
  · obtain ⟨l, sa, ta, tabs, fs, SP, TH, x, rfl, hL, hsa, hta, hSP, hx, k⟩ := h
    refine ⟨_, (pss_cons (ps_set (i := 4) sc_same_value.nd rfl (Or.inl rfl) (pe_lstS (pa_cons (pv 2) pa_nil)))
  (pss_cons (ps_for PassesOwn.never rfl (pi_range1 (by rfl) T.z_range (pa_cons (pe_callB call_len_seq (by rfl) T.z_len (by decide +kernel) (pa_cons (pv 0) pa_nil)) pa_nil)) (pg_name (i := 5) sc_same_value.nd rfl (Or.inl rfl)) (pss_one (ps_for PassesOwn.never rfl (pi_list (pe_call (ok_found_pairs T B) (hr.mono (by decide)) rfl T.g_found_pairs T.F_found_pairs.kp T.b_found_pairs .nil pass0 (pa_cons (pv 0) pa_nil))) (pg_tup rfl (pgs_cons (pg_name (i := 6) sc_same_value.nd rfl (Or.inl rfl)) (pgs_cons (pg_name (i := 7) sc_same_value.nd rfl (Or.inl rfl)) pgs_nil))) (pss_one (ps_if (PW.pt (pw_and (pt_cmpR op_in_seq (pv 7) (pv 1) (by rfl)) (pw_and (pt_cmpR op_in_seq (pe_ix ix_list (pe_split (pv 6) pe_str) pe_int (fun _ _ => rfl)) (pv 3) (by rfl)) (pw_and1 (pt_cmpR op_in_seq (pe_ix ix_list (pe_split (pv 7) pe_str) pe_int (fun _ _ => rfl)) (pv 3) (by rfl)))))) (pss_cons (ps_set (i := 4) sc_same_value.nd rfl (Or.inl rfl) (pe_op op_catS (pv 4) (pe_op op_rep (pe_lstS (pa_cons (pv 7) pa_nil)) (pe_callTy call_int1 (by rfl) T.z_int (by decide +kernel) (pa_cons (pe_and (pe_cmpR op_in_seq (pv 6) (pv 4) (by rfl)) (pe_one (pe_cmpR op_notIn_seq (pv 7) (pv 4) (by rfl)))) pa_nil)))))
  (pss_one (ps_set (i := 4) sc_same_value.nd rfl (Or.inl rfl) (pe_op op_catS (pv 4) (pe_op op_rep (pe_lstS (pa_cons (pv 6) pa_nil)) (pe_callTy call_int1 (by rfl) T.z_int (by decide +kernel) (pa_cons (pe_and (pe_cmpR op_in_seq (pv 7) (pv 4) (by rfl)) (pe_one (pe_cmpR op_notIn_seq (pv 6) (pv 4) (by rfl)))) pa_nil))))))) pss_nil)))))
  (pss_one (ps_ret (pv 4))))), ?_⟩
    have G := hL.good
    have hlen := hL.len
    have hll : (linesV fs).length = fs.length := List.length_map ..
    have hcl := colL_len fs
    refine ⟨_, rfl, (by show 1 ≤ sizeLine; decide), fun a0 H0 n0 s0 e0 => ?_⟩
    refine ⟨_, rfl, l, _, rfl, .inl (SqL.of (s0 _ _ hL.lst)), ((linesV fs).length : Nat), rfl, by omega, by omega, ?_⟩
    refine for_range (lo := 0) (n := ((linesV fs).length : Int).toNat) (fun i σ H' => ∃ (ad : Addr) (v5 v6 v7 : Option V) (S : List CP), σ = [some (.ref l), some (.ref sa), some (.str (sp x)), some (.ref ta), some (.ref ad), v5, v6, v7] ∧ Same H H' ∧ S = rounds (fun S => (colL fs).foldl (sameStep SP TH) S) i [x] ∧ H' ad = some (.lst (S.map spV)) ∧ S.length ≤ 1 + 24 * i ∧ H ad = none ∧ ∀ y ∈ S, Col tabs y)
      ⟨a0, none, none, none, [x], rfl, s0, rfl, e0, Nat.le_refl _, n0, fun y hy => by rw [List.mem_singleton.mp hy]; exact hx⟩ ?_ ?_
    · rintro i σ H1 hi ⟨ad, v5, v6, v7, S0, rfl, s1, hS0, e1, hl, na, hc⟩
      have hi : i < fs.length := by rw [hll] at hi; simpa using hi
      refine ⟨_, rfl, l, tabs, fs, rfl, hL.same s1, fun r H2 n2 s2 ⟨ps, er, hps⟩ => ?_⟩
      have hpl := Paired.length hps
      refine ⟨r, rfl, ⟨_, SqL.of er⟩, ?_⟩
      refine for_list (xs := ps.map V.ref) (fun j σ H' => ∃ (ad : Addr) (v6 v7 : Option V) (S : List CP), σ = [some (.ref l), some (.ref sa), some (.str (sp x)), some (.ref ta), some (.ref ad), some (.int (0 + (i : Int))), v6, v7] ∧ Same H2 H' ∧ S = ((colL fs).take j).foldl (sameStep SP TH) S0 ∧ H' ad = some (.lst (S.map spV)) ∧ S.length ≤ 1 + 24 * i + 2 * j ∧ H ad = none ∧ ∀ y ∈ S, Col tabs y)
        ⟨ad, _, _, S0, rfl, Same.refl _, rfl, s2 _ _ e1, hl, na, hc⟩ (fun j σ H' _ ⟨_, _, _, _, _, s, _⟩ => SqL.of (s _ _ er)) ?_ ?_
      · rintro j v σ H3 hj ⟨ad, v6, v7, S, rfl, s3, hS, e3, hl, na, hc⟩
        have hjl : j < (colL fs).length := by
          rcases Nat.lt_or_ge j (colL fs).length with h | h
          · exact h
          · rw [List.getElem?_eq_none (by rw [List.length_map]; omega)] at hj; cases hj
        rw [List.getElem?_map, List.getElem?_eq_getElem (show j < ps.length by omega)] at hj
        cases hj
        have e4 := paired_at hps (List.getElem?_eq_getElem (show j < ps.length by omega)) (List.getElem?_eq_getElem hjl)
        have hcp := col_ok hL.fct (List.getElem_mem hjl)
        have hS' : ((colL fs).take (j + 1)).foldl (sameStep SP TH) S0 = sameStep SP TH S (colL fs)[j] := by rw [fold_take hjl, ← hS]
        generalize (colL fs)[j] = p at e4 hcp hS'
        obtain ⟨hc1, hc2⟩ := hcp
        have hn1 := hc1.nm G
        have hn2 := hc2.nm G
        have s02 := s1.trans s2
        have s03 := s02.trans s3
        refine ⟨_, _, rfl, SqT.of (s3 _ _ e4), rfl, _, _, rfl, _, _, rfl, rfl, ?_⟩
        have no : ¬ okLink SP TH p → sameStep SP TH S p = S := fun h => if_neg h
        have out : ∀ H4, Same H3 H4 → ¬ okLink SP TH p → ∃ (ad' : Addr) (v6' v7' : Option V) (S' : List CP), ([some (.ref l), some (.ref sa), some (.str (sp x)), some (.ref ta), some (.ref ad), some (.int (0 + (i : Int))), some (.str (sp p.1)), some (.str (sp p.2))] : L2.St) = [some (.ref l), some (.ref sa), some (.str (sp x)), some (.ref ta), some (.ref ad'), some (.int (0 + (i : Int))), v6', v7'] ∧ Same H2 H4 ∧ S' = ((colL fs).take (j + 1)).foldl (sameStep SP TH) S0 ∧ H4 ad' = some (.lst (S'.map spV)) ∧ S'.length ≤ 1 + 24 * i + 2 * (j + 1) ∧ H ad' = none ∧ ∀ y ∈ S', Col tabs y :=
          fun H4 s4 h => ⟨ad, _, _, S, rfl, s3.trans s4, by rw [hS', no h], s4 _ _ e3, by omega, na, hc⟩
        refine ⟨_, rfl, _, rfl, sa, _, rfl, .inl (SqL.of (s03 _ _ hsa)), rfl, flat_sp _, decide (p.2 ∈ SP), congrArg V.bl (spots_in G hSP hc2), ?_⟩
        by_cases c1 : p.2 ∈ SP
        · rw [decide_eq_true c1]
          refine iteT ?_
          refine split0 hn1 (fun Q2 q => ⟨_, rfl, q⟩) fun H4 s4 => ?_
          refine ⟨_, rfl, ta, _, rfl, .inl (SqL.of (s4 _ _ (s03 _ _ hta))), rfl, all_strs _ _, decide (p.1.1 ∈ TH), congrArg V.bl names_in, ?_⟩
          by_cases c2 : p.1.1 ∈ TH
          · rw [decide_eq_true c2]
            refine iteT ?_
            refine split0 hn2 (fun Q2 q => ⟨_, rfl, q⟩) fun H5 s5 => ?_
            have s45 := s4.trans s5
            refine ⟨_, rfl, ta, _, rfl, .inl (SqL.of (s45 _ _ (s03 _ _ hta))), rfl, all_strs _ _, decide (p.2.1 ∈ TH), congrArg V.bl names_in, ?_⟩
            by_cases c3 : p.2.1 ∈ TH
            · rw [decide_eq_true c3]
              have ok : okLink SP TH p := ⟨c1, c2, c3⟩
              have est : sameStep SP TH S p = sameTwo (sameOne S p) p := if_pos ok
              have cone : ∀ y ∈ sameOne S p, Col tabs y := fun y hy => by
                rcases sameOne_mem.mp hy with h | ⟨_, h⟩
                · exact hc y h
                · rw [h]; exact hc2
              have ctwo : ∀ y ∈ sameTwo (sameOne S p) p, Col tabs y := fun y hy => by
                rcases sameTwo_mem.mp hy with h | ⟨_, h⟩
                · exact cone y h
                · rw [h]; exact hc1
              have l1 := addIf_len (c := decide (p.1 ∈ S ∧ p.2 ∉ S)) (S := S) (y := p.2)
              have l2 := sameTwo_len (S := S) (p := p)
              refine iteT ?_
              refine add_col G (i := 4) (a := 6) (b := 7) (S := S) (x := p.1) (y := p.2) rfl rfl rfl (s45 _ _ e3) hc hc1 hc2 (by omega) fun r1 H6 n6 s6 e6 => ?_
              have e6 : H6 r1 = some (.lst ((sameOne S p).map spV)) := e6
              refine add_col G (i := 4) (a := 7) (b := 6) (S := sameOne S p) (x := p.2) (y := p.1) rfl rfl rfl e6 cone hc2 hc1 (by unfold sameOne; omega) fun r2 H7 n7 s7 e7 => ?_
              have e7 : H7 r2 = some (.lst ((sameTwo (sameOne S p) p).map spV)) := e7
              refine ⟨r2, _, _, sameTwo (sameOne S p) p, rfl, ((s3.trans s45).trans s6).trans s7, by rw [hS', est], e7, by omega, free_of ((s03.trans s45).trans s6) n7, ctwo⟩
            · rw [decide_eq_false c3]
              exact iteF (out _ s45 fun h => c3 h.2.2)
          · rw [decide_eq_false c2]
            exact iteF (iteF (out _ s4 fun h => c2 h.2.1))
        · rw [decide_eq_false c1]
          exact iteF (iteF (out _ (Same.refl _) fun h => c1 h.1))
      · rintro σ H3 ⟨ad, v6, v7, S, rfl, s3, hS, e3, hl, na, hc⟩
        rw [List.length_map, hpl] at hS hl
        rw [List.take_length] at hS
        refine ⟨ad, _, _, _, S, rfl, (s1.trans s2).trans s3, ?_, e3, by omega, na, hc⟩
        rw [hS, hS0]; rfl
    · rintro σ H1 ⟨ad, v5, v6, v7, S0, rfl, s1, hS0, e1, hl, na, hc⟩
      have hn : ((linesV fs).length : Int).toNat = fs.length := by rw [hll]; simp
      rw [hn] at hS0 hl
      have hM : sameM fs SP TH x = S0 := hS0.symm
      exact ⟨_, rfl, k ad H1 na s1 (by rw [hM]; exact e1) (by rw [hM]; omega) (by rw [hM]; exact hc)⟩
def sp_found_implied : Sp := fun vs H Q _ => ∃ (at_ l : Addr) (qs : List Addr) (tabs : Tabs) (fs : List Fact) (x g : CP), vs = [.ref at_, .ref l, .str (sp x), .str (sp g)] ∧ H at_ = some (.lst (qs.map V.ref)) ∧ Paired (TabAt H) qs tabs ∧ LinesAt H l tabs fs ∧ Col tabs x ∧ Col tabs g ∧
  ∀ (b : Bool) H', Same H H' → (b = true ↔ FoundI fs x g) → Q (.bl b) H'
theorem ok_found_implied (T : TX K mg) (B : TB T base) : FnOk P w K mg base CX0 4 T.a_found_implied T.fd_found_implied p_found_implied sp_found_implied := by
  refine T.F_found_implied.ok sc_found_implied (fun vs H Q E h => ?_) (fun cdv A outer s H vs Q E hr h => ?_)
  · obtain ⟨at_, l, qs, tabs, fs, x, g, rfl, _⟩ := h
    rfl
  · obtain ⟨at_, l, qs, tabs, fs, x, g, rfl, hat, hT, hL, hx, hg, k⟩ := h
    refine ⟨_, (pss_cons (ps_par (i := 4) (j := 5) (by rfl) sc_found_implied.nd rfl rfl (by decide) rfl rfl (pa_cons (pe_ix ix_tup (pe_call (ok_fixed T B) (hr.mono (by decide)) rfl T.g_fixed T.F_fixed.kp T.b_fixed .nil pass0 (pa_cons (pv 0) (pa_cons (pv 1) pa_nil))) pe_int (fun _ _ => rfl)) (pa_cons (pe_ix ix_list (pe_split (pv 2) pe_str) pe_int (fun _ _ => rfl)) pa_nil)) (by rfl))
  (pss_cons (ps_set (i := 6) sc_found_implied.nd rfl (Or.inl rfl) (pe_op op_catS (pe_call (ok_led_from T B) (hr.mono (by decide)) rfl T.g_led_from T.F_led_from.kp T.b_led_from .nil pass0 (pa_cons (pv 1) (pa_cons (pv 5) pa_nil))) (pe_call (ok_filled T B) (hr.mono (by decide)) rfl T.g_filled T.F_filled.kp T.b_filled .nil pass0 (pa_cons (pv 1) pa_nil))))
  (pss_cons (ps_set (i := 7) sc_found_implied.nd rfl (Or.inr rfl) (pe_ifExp (pt_cmpR op_in_seq (pv 2) (pv 4) (by rfl)) (pe_call (ok_same_value T B) (hr.mono (by decide)) rfl T.g_same_value T.F_same_value.kp T.b_same_value .nil pass0 (pa_cons (pv 1) (pa_cons (pv 4) (pa_cons (pv 2) (pa_cons (pv 6) pa_nil))))) (pe_lstS (pa_cons (pv 2) pa_nil))))
  (pss_cons (ps_for PassesOwn.never rfl (pi_range1 (by rfl) T.z_range (pa_cons (pe_callB call_len_seq (by rfl) T.z_len (by decide +kernel) (pa_cons (pv 1) pa_nil)) pa_nil)) (pg_name (i := 8) sc_found_implied.nd rfl (Or.inl rfl)) (pss_one (ps_set (i := 7) sc_found_implied.nd rfl (Or.inr rfl) (pe_op op_catS (pv 7) (pe_lc (own := [("_law_spot_here", 9), ("_law_goal", 10)]) (g := gTup K 2 (gCons (gName 9) (gCons (gName 10) gNil))) (tt := _) rfl sc_found_implied.nd (pi_list (pe_call (ok_found_pairs T B) (hr.mono (by decide)) rfl T.g_found_pairs T.F_found_pairs.kp T.b_found_pairs .nil pass0 (pa_cons (pv 1) pa_nil))) (blkOk_by (own := [("_law_spot_here", 9), ("_law_goal", 10)]) (N := n_found_implied) (sc := defScope s_found_implied) (by decide +kernel)) (fun _ _ _ _ _ => (pg_tup rfl (pgs_cons (pg_name (i := 9) sc_found_implied.nd rfl (Or.inl rfl)) (pgs_cons (pg_name (i := 10) sc_found_implied.nd rfl (Or.inl rfl)) pgs_nil)))) (fun _ _ _ _ _ => pts_one (pt_cmpR (op_inK (K := K)) (pv 9) (pv 7) (by rfl))) (fun _ _ _ _ _ => (pv 10)))))))
  (pss_one (ps_ret (pe_cmpR op_in_seq (pv 3) (pv 7) (by rfl)))))))), ?_⟩
    have G := hL.good
    have hlen := hL.len
    have hll : (linesV fs).length = fs.length := List.length_map ..
    have hcl := colL_len fs
    obtain ⟨_, spots⟩ := fixed_mem hL.fct hL.few hL.len
    have fi := found_iff (g := g) hL.fct hL.few hL.len hx
    unfold foundM at fi
    refine ⟨_, rfl, _, rfl, at_, l, qs, tabs, fs, rfl, hat, hT, hL, fun tp o sa H1 n1 s1 e1 eo es lo ls => ?_⟩
    refine ⟨tp, _, 1, _, rfl, rfl, SqT.of e1, atI_nat (k := 1) rfl, ?_⟩
    refine split0 (hx.nm G) (fun Q2 q => ⟨_, rfl, q⟩) fun H2 s2 => ⟨_, _, rfl, ?_⟩
    have s02 := s1.trans s2
    refine ⟨_, rfl, _, rfl, l, x.1, tabs, fs, rfl, hL.same s02, fun r3 H3 n3 s3 e3 l3 => ?_⟩
    refine ⟨_, rfl, l, tabs, fs, rfl, hL.same (s02.trans s3), fun r4 H4 n4 s4 e4 l4 => ?_⟩
    refine ⟨r3, r4, _, _, rfl, rfl, s4 _ _ e3, e4, by rw [List.length_map, List.length_map, sizeLine_eq]; omega, fun ta H5 n5 s5 e5 => ?_⟩
    rw [← List.map_append] at e5
    have s25 := (s3.trans s4).trans s5
    have s05 := s02.trans s25
    have es5 := (s2.trans s25) _ _ es
    have hSP : ∀ y ∈ (fixedM tabs fs).2, Col tabs y := fun y hy => ((spots y).mp hy).1
    generalize led fs x.1 ++ filledM fs fs = TH at e5 fi
    generalize (fixedM tabs fs).2 = SP at es5 fi hSP
    refine ⟨_, rfl, _, rfl, sa, _, rfl, .inl (SqL.of es5), rfl, flat_sp _, decide (x ∈ SP), congrArg V.bl (spots_in G hSP hx), ?_⟩
    refine tif_two (fun v H' => ∃ (S1 : List CP) (r6 : Addr), v = .ref r6 ∧ S1 = (if x ∈ SP then sameM fs SP TH x else [x]) ∧ Same H5 H' ∧ H' r6 = some (.lst (S1.map spV)) ∧ S1.length ≤ 400 ∧ ∀ y ∈ S1, Col tabs y) ?_ ?_ ?_
    · intro c R hR
      have c := of_decide_eq_true c
      exact ⟨_, rfl, _, rfl, _, rfl, _, rfl, l, sa, ta, tabs, fs, SP, TH, x, rfl, hL.same s05, es5, e5, hSP, hx, fun r6 H6 n6 s6 e6 l6 c6 => hR _ H6 ⟨_, r6, rfl, (if_pos c).symm, s6, e6, l6, c6⟩⟩
    · intro c R hR
      have c := of_decide_eq_false c
      exact ⟨_, rfl, (by show 1 ≤ sizeLine; decide), fun r6 H6 n6 s6 e6 => hR _ H6 ⟨[x], r6, rfl, (if_neg c).symm, s6, e6, (by show 1 ≤ 400; decide), fun y hy => by rw [List.mem_singleton.mp hy]; exact hx⟩⟩
    rintro _ H6 ⟨S1, r6, rfl, hS1, s6, e6, l6, c6⟩
    rw [← hS1] at fi
    refine ⟨_, rfl, l, _, rfl, .inl (SqL.of (s6 _ _ (s05 _ _ hL.lst))), ((linesV fs).length : Nat), rfl, by omega, by omega, ?_⟩
    refine for_range (lo := 0) (n := ((linesV fs).length : Int).toNat) (fun i σ H' => ∃ (ad : Addr) (v8 v9 v10 : Option V) (S : List CP), σ = [some (.ref at_), some (.ref l), some (.str (sp x)), some (.str (sp g)), some (.ref sa), some (.str x.1), some (.ref ta), some (.ref ad), v8, v9, v10] ∧ Same H H' ∧ S = rounds (metStep (colL fs)) i S1 ∧ H' ad = some (.lst (S.map spV)) ∧ S.length ≤ 400 + 12 * i ∧ ∀ y ∈ S, Col tabs y)
      ⟨r6, none, none, none, S1, rfl, s05.trans s6, rfl, e6, l6, c6⟩ ?_ ?_
    · rintro i σ H7 hi ⟨ad, v8, v9, v10, S, rfl, s7, hS, e7, hl, hc⟩
      have hi : i < fs.length := by rw [hll] at hi; simpa using hi
      refine ⟨_, rfl, _, rfl, l, tabs, fs, rfl, hL.same s7, fun r H8 n8 s8 ⟨ps, er, hps⟩ => ?_⟩
      have hpl := Paired.length hps
      have e8 := s8 _ _ e7
      refine ⟨r, rfl, ⟨_, SqL.of er⟩, fun D hD => ?_⟩
      refine lc_grow (n := (colL fs).length) hD (fun i acc H' => acc = ((((colL fs).take i).filter fun p => decide (p.1 ∈ S)).map (·.2)).map spV) (fun i acc H' o hp _ => hp) (fun _ _ => rfl)
        (fun i H' hi s1 => ⟨_, V.ref (ps[i]'(by omega)), SqL.of (s1 _ _ er), by rw [List.getElem?_map, List.getElem?_eq_getElem (by omega)]; rfl⟩) (fun H' s1 => ⟨_, SqL.of (s1 _ _ er), by rw [List.length_map]; omega⟩) (small1000 (by omega)) (fun i acc H' F G' hF hG hi s1 hacc hp v H2 yl => ?_) (fun acc H9 s9 e9 hpa => ?_)
      · obtain ⟨eH, ev⟩ := yl
        subst eH
        have ev := ev _ (SqL.of (s1 _ _ er))
        rw [List.getElem?_map, List.getElem?_eq_getElem (show i < ps.length by omega)] at ev
        cases ev
        have e2 := paired_at hps (List.getElem?_eq_getElem (show i < ps.length by omega)) (List.getElem?_eq_getElem hi)
        have hcp := col_ok hL.fct (List.getElem_mem hi)
        have et : ((colL fs).take (i + 1)).filter (fun p => decide (p.1 ∈ S)) = ((colL fs).take i).filter (fun p => decide (p.1 ∈ S)) ++ if decide ((colL fs)[i].1 ∈ S) = true then [(colL fs)[i]] else [] := by
          rw [List.take_add_one, List.getElem?_eq_getElem hi, List.filter_append]
          congr 1
          show List.filter _ [(colL fs)[i]] = _
          rw [List.filter_cons]; rfl
        generalize (colL fs)[i] = p at e2 hcp et
        refine ⟨_, _, rfl, SqT.of (s1 _ _ e2), rfl, _, _, rfl, _, _, rfl, rfl, rfl, ?_⟩
        refine ⟨_, rfl, _, rfl, ad, _, rfl, .inl (SqL.of (s1 _ _ e8)), rfl, flat_sp _, decide (p.1 ∈ S), congrArg V.bl (spots_in G hc hcp.1), ?_⟩
        by_cases c : p.1 ∈ S
        · rw [decide_eq_true c]
          refine iteT ⟨_, rfl, hF _ _ (Same.refl _) ?_⟩
          rw [et, if_pos (decide_eq_true c), hp, List.map_append, List.map_append]; rfl
        · rw [decide_eq_false c]
          refine iteF (hG _ (Same.refl _) ?_)
          rw [et, if_neg (by rw [decide_eq_false c]; decide), List.append_nil, hp]
      rw [List.take_length] at hpa
      subst hpa
      have hfl : (((colL fs).filter fun p => decide (p.1 ∈ S)).map (·.2)).length ≤ 12 := by
        rw [List.length_map]
        exact Nat.le_trans (List.length_filter_le _ _) (by omega)
      refine ⟨ad, D, _, _, rfl, rfl, s9 _ _ e8, e9, Nat.le_of_lt (small1000 (by rw [List.length_map, List.length_map]; omega)), fun r2 HA nA sA eA => ?_⟩
      rw [← List.map_append] at eA
      refine ⟨r2, _, _, _, metStep (colL fs) S, rfl, ((s7.trans s8).trans s9).trans sA, by rw [hS]; rfl, eA, ?_, fun y hy => ?_⟩
      · unfold metStep
        rw [List.length_append]; omega
      · rcases metStep_mem.mp hy with h | ⟨z, h, _⟩
        · exact hc y h
        · exact (col_ok hL.fct h).2
    · rintro σ H7 ⟨ad, v8, v9, v10, S, rfl, s7, hS, e7, hl, hc⟩
      have hn : ((linesV fs).length : Int).toNat = fs.length := by rw [hll]; simp
      rw [hn] at hS
      have hM : metM fs S1 = S := hS.symm
      rw [hM] at fi
      refine ⟨_, rfl, _, rfl, ad, _, rfl, .inl (SqL.of e7), rfl, flat_sp _, ?_⟩
      have z := spots_in G hc hg
      rw [show (if false = true then !inV (.str (sp g)) (S.map spV) else inV (.str (sp g)) (S.map spV)) = decide (g ∈ S) from z]
      exact k _ H7 s7 ⟨fun q => fi.mp (of_decide_eq_true q), fun q => decide_eq_true (fi.mpr q)⟩
end
end L2.Pf
set_option maxHeartbeats 2000000
namespace L2.Pf
open PySem PySem.Spec PyProof.Rows L2.Ev L2.Tpd L2.Seti L2.Gq L2.Enf L2.Sett L2.Itr L2.Dls L2.Own L2.Dsp L2.Dcs L2.Vls L2.Ent
section
variable {P : Program} {w : World} {K : PySem.W.Frag} {mg : Str → Option Value} {base : Heap}
theorem fol_filled {fs : List Fact} {t : Str} : Follows fs (("filled" : Str), (t, none), none) ↔ Filled fs t := ⟨fun h => by
  rcases h with h | h | h | h | h
  · exact h.2
  · exact absurd (show ("filled" : Str) = ("found" : Str) from h.1) (by decide +kernel)
  · exact absurd (show ("filled" : Str) = ("single" : Str) from h.1) (by decide +kernel)
  · exact absurd (show ("filled" : Str) = ("unique" : Str) from h.1) (by decide +kernel)
  · exact absurd (show ("filled" : Str) = ("sorted" : Str) from h.1) (by decide +kernel), fun h => .inl ⟨rfl, h⟩⟩
theorem fol_single {fs : List Fact} {t : Str} : Follows fs (("single" : Str), (t, none), none) ↔ Lone fs t := ⟨fun h => by
  rcases h with h | h | h | h | h
  · exact absurd (show ("single" : Str) = ("filled" : Str) from h.1) (by decide +kernel)
  · exact absurd (show ("single" : Str) = ("found" : Str) from h.1) (by decide +kernel)
  · exact h.2
  · exact absurd (show ("single" : Str) = ("unique" : Str) from h.1) (by decide +kernel)
  · exact absurd (show ("single" : Str) = ("sorted" : Str) from h.1) (by decide +kernel), fun h => .inr (.inr (.inl ⟨rfl, h⟩))⟩
theorem fol_unique {fs : List Fact} {x : CP} : Follows fs (("unique" : Str), (x.1, some x.2), none) ↔ (("unique" : Str), (x.1, some x.2), none) ∈ fs ∨ Lone fs x.1 := ⟨fun h => by
  rcases h with h | h | h | h | h
  · exact absurd (show ("unique" : Str) = ("filled" : Str) from h.1) (by decide +kernel)
  · exact absurd (show ("unique" : Str) = ("found" : Str) from h.1) (by decide +kernel)
  · exact absurd (show ("unique" : Str) = ("single" : Str) from h.1) (by decide +kernel)
  · exact h.2
  · exact absurd (show ("unique" : Str) = ("sorted" : Str) from h.1) (by decide +kernel), fun h => .inr (.inr (.inr (.inl ⟨rfl, h⟩)))⟩
theorem fol_sorted {fs : List Fact} {x : CP} : Follows fs (("sorted" : Str), (x.1, some x.2), none) ↔ (("sorted" : Str), (x.1, some x.2), none) ∈ fs ∨ Const fs x := ⟨fun h => by
  rcases h with h | h | h | h | h
  · exact absurd (show ("sorted" : Str) = ("filled" : Str) from h.1) (by decide +kernel)
  · exact absurd (show ("sorted" : Str) = ("found" : Str) from h.1) (by decide +kernel)
  · exact absurd (show ("sorted" : Str) = ("single" : Str) from h.1) (by decide +kernel)
  · exact absurd (show ("sorted" : Str) = ("unique" : Str) from h.1) (by decide +kernel)
  · exact h.2, fun h => .inr (.inr (.inr (.inr ⟨rfl, h⟩)))⟩
theorem fol_found {fs : List Fact} {x y : CP} : Follows fs (("found" : Str), (x.1, some x.2), some (y.1, some y.2)) ↔ FoundI fs x y := ⟨fun h => by
  rcases h with h | h | h | h | h
  · exact absurd (show ("found" : Str) = ("filled" : Str) from h.1) (by decide +kernel)
  · exact h.2
  · exact absurd (show ("found" : Str) = ("single" : Str) from h.1) (by decide +kernel)
  · exact absurd (show ("found" : Str) = ("unique" : Str) from h.1) (by decide +kernel)
  · exact absurd (show ("found" : Str) = ("sorted" : Str) from h.1) (by decide +kernel), fun h => .inr (.inl ⟨rfl, h⟩)⟩
def sp_implied : Sp := fun vs H Q _ => ∃ (at_ l : Addr) (qs : List Addr) (tabs : Tabs) (fs : List Fact) (f : Fact), vs = [.ref at_, .ref l, .str (lineT f)] ∧ H at_ = some (.lst (qs.map V.ref)) ∧ Paired (TabAt H) qs tabs ∧ LinesAt H l tabs fs ∧ Fct tabs f ∧
  ∀ (b : Bool) H', Same H H' → (b = true ↔ Follows fs f) → Q (.bl b) H'
theorem ok_implied (T : TX K mg) (B : TB T base) : FnOk P w K mg base CX0 5 T.a_implied T.fd_implied p_implied sp_implied := by
  refine T.F_implied.ok sc_implied (fun vs H Q E h => ?_) (fun cdv A outer s H vs Q E hr h => ?_)
  · obtain ⟨at_, l, qs, tabs, fs, f, rfl, _⟩ := h
    rfl
  · obtain ⟨at_, l, qs, tabs, fs, f, rfl, hat, hT, hL, hf, k⟩ := h
    refine ⟨_, (pss_cons (ps_set (i := 3) sc_implied.nd rfl (Or.inl rfl) (pe_split (pv 2) pe_str))
  (pss_cons (ps_asg (pe_call (ok_fixed T B) (hr.mono (by decide)) rfl T.g_fixed T.F_fixed.kp T.b_fixed .nil pass0 (pa_cons (pv 0) (pa_cons (pv 1) pa_nil))) (pg_tup rfl (pgs_cons (pg_name (i := 4) sc_implied.nd rfl (Or.inl rfl)) (pgs_cons (pg_name (i := 5) sc_implied.nd rfl (Or.inl rfl)) pgs_nil))))
  (pss_cons (ps_if (pt_cmpR op_eq (pe_ix ix_list (pv 3) pe_int (fun _ _ => rfl)) pe_str (nomark _)) (pss_one (ps_ret (pe_cmpR op_in_seq (pe_ix ix_list (pv 3) pe_int (fun _ _ => rfl)) (pe_call (ok_filled T B) (hr.mono (by decide)) rfl T.g_filled T.F_filled.kp T.b_filled .nil pass0 (pa_cons (pv 1) pa_nil)) (by rfl)))) pss_nil)
  (pss_cons (ps_if (pt_cmpR op_eq (pe_ix ix_list (pv 3) pe_int (fun _ _ => rfl)) pe_str (nomark _)) (pss_one (ps_ret (pe_cmpR op_in_seq (pe_ix ix_list (pv 3) pe_int (fun _ _ => rfl)) (pv 4) (by rfl)))) pss_nil)
  (pss_cons (ps_if (pt_cmpR op_eq (pe_ix ix_list (pv 3) pe_int (fun _ _ => rfl)) pe_str (nomark _)) (pss_one (ps_ret (pe_or (pe_cmpR op_in_seq (pv 2) (pv 1) (by rfl)) (pe_one (pe_cmpR op_in_seq (pe_ix ix_list (pe_split (pe_ix ix_list (pv 3) pe_int (fun _ _ => rfl)) pe_str) pe_int (fun _ _ => rfl)) (pv 4) (by rfl)))))) pss_nil)
  (pss_cons (ps_if (pt_cmpR op_eq (pe_ix ix_list (pv 3) pe_int (fun _ _ => rfl)) pe_str (nomark _)) (pss_one (ps_ret (pe_or (pe_cmpR op_in_seq (pv 2) (pv 1) (by rfl)) (pe_one (pe_cmpR op_in_seq (pe_ix ix_list (pv 3) pe_int (fun _ _ => rfl)) (pv 5) (by rfl)))))) pss_nil)
  (pss_one (ps_ret (pe_call (ok_found_implied T B) (hr.mono (by decide)) rfl T.g_found_implied T.F_found_implied.kp T.b_found_implied .nil pass0 (pa_cons (pv 0) (pa_cons (pv 1) (pa_cons (pe_ix ix_list (pv 3) pe_int (fun _ _ => rfl)) (pa_cons (pe_ix ix_list (pv 3) pe_int (fun _ _ => rfl)) pa_nil))))))))))))), ?_⟩
    have G := hL.good
    obtain ⟨ones, spots⟩ := fixed_mem hL.fct hL.few hL.len
    have hsz := line_len G hf
    have hws := line_split G hf
    refine ⟨_, rfl, ⟨_, rfl⟩, _, _, rfl, rfl, by decide, two_sz (by omega), fun p0 np0 => ?_⟩
    rw [hws]
    have s1 : Same H (upd H p0 (.lst ((words f).map V.str))) := Same.new (Same.refl _) np0
    have e1 : (upd H p0 (.lst ((words f).map V.str))) p0 = some (.lst ((words f).map V.str)) := upd_same
    generalize upd H p0 (.lst ((words f).map V.str)) = H1 at s1 e1
    refine ⟨_, rfl, _, rfl, at_, l, qs, tabs, fs, rfl, s1 _ _ hat, Paired.mapP hT fun q t ⟨c, z1, z2⟩ => ⟨c, s1 _ _ z1, s1 _ _ z2⟩, hL.same s1, fun tp o sa H2 n2 s2 e2 eo es lo ls => ?_⟩
    refine ⟨tp, _, rfl, SqT.of e2, rfl, _, _, rfl, _, _, rfl, rfl, ?_⟩
    have s02 := s1.trans s2
    have ew := s2 _ _ e1
    have hSP : ∀ y ∈ (fixedM tabs fs).2, Col tabs y := fun y hy => ((spots y).mp hy).1
    have hL2 := hL.same s02
    generalize (fixedM tabs fs).1 = ON at eo ones
    generalize (fixedM tabs fs).2 = SP at es spots hSP
    have line : ∀ {H' : Hp}, Same H2 H' → SqL K H' l (linesV fs) := fun s => SqL.of (s _ _ hL2.lst)
    cases hf with
    | @table t w ht hw =>
      have ew : H2 p0 = some (.lst ([w, t.1].map V.str)) := ew
      refine ⟨_, rfl, p0, _, 0, _, rfl, rfl, SqL.of ew, atI_nat (k := 0) rfl, rfl, _, rfl, ?_⟩
      rcases hw with rfl | rfl
      · rw [cmp_text, decide_eq_false (by decide +kernel)]
        refine iteF ⟨_, rfl, p0, _, 0, _, rfl, rfl, SqL.of ew, atI_nat (k := 0) rfl, rfl, _, rfl, ?_⟩
        rw [cmp_text, decide_eq_true rfl]
        refine iteT ⟨_, rfl, p0, _, 1, _, rfl, rfl, SqL.of ew, atI_nat (k := 1) rfl, _, rfl, o, _, rfl, .inl (SqL.of eo), rfl, all_strs _ _, ?_⟩
        rw [show (if false = true then !inV (.str t.1) (ON.map V.str) else inV (.str t.1) (ON.map V.str)) = decide (t.1 ∈ ON) from names_in]
        exact k _ H2 s02 ⟨fun z => fol_single.mpr ((ones _).mp (of_decide_eq_true z)), fun z => decide_eq_true ((ones _).mpr (fol_single.mp z))⟩
      · rw [cmp_text, decide_eq_true rfl]
        refine iteT ⟨_, rfl, p0, _, 1, _, rfl, rfl, SqL.of ew, atI_nat (k := 1) rfl, _, rfl, l, tabs, fs, rfl, hL2, fun r H3 n3 s3 e3 l3 => ?_⟩
        refine ⟨r, _, rfl, .inl (SqL.of e3), rfl, all_strs _ _, ?_⟩
        rw [show (if false = true then !inV (.str t.1) ((filledM fs fs).map V.str) else inV (.str t.1) ((filledM fs fs).map V.str)) = decide (t.1 ∈ filledM fs fs) from names_in]
        exact k _ H3 (s02.trans s3) ⟨fun z => fol_filled.mpr (filledM_mem.mp (of_decide_eq_true z)), fun z => decide_eq_true (filledM_mem.mpr (fol_filled.mp z))⟩
    | @column x w hx hw =>
      have ew : H2 p0 = some (.lst ([w, sp x].map V.str)) := ew
      have hin : ∀ {w : Str}, (w = ("unique" : Str) ∨ w = ("sorted" : Str)) → inV (.str (lineT (w, (x.1, some x.2), none))) (linesV fs) = decide ((w, (x.1, some x.2), none) ∈ fs) := fun h => line_in G hL.nd hL.fct (.column hx h)
      refine ⟨_, rfl, p0, _, 0, _, rfl, rfl, SqL.of ew, atI_nat (k := 0) rfl, rfl, _, rfl, ?_⟩
      rw [cmp_text, decide_eq_false (by rcases hw with rfl | rfl <;> decide +kernel)]
      refine iteF ⟨_, rfl, p0, _, 0, _, rfl, rfl, SqL.of ew, atI_nat (k := 0) rfl, rfl, _, rfl, ?_⟩
      rw [cmp_text, decide_eq_false (by rcases hw with rfl | rfl <;> decide +kernel)]
      refine iteF ⟨_, rfl, p0, _, 0, _, rfl, rfl, SqL.of ew, atI_nat (k := 0) rfl, rfl, _, rfl, ?_⟩
      rcases hw with rfl | rfl
      · rw [cmp_text, decide_eq_true rfl]
        refine iteT ⟨_, rfl, _, rfl, l, _, rfl, .inl (line (Same.refl _)), rfl, flat_lines _, decide ((("unique" : Str), (x.1, some x.2), none) ∈ fs), congrArg V.bl (hin (.inl rfl)), ?_⟩
        by_cases c : (("unique" : Str), (x.1, some x.2), (none : Option Place)) ∈ fs
        · rw [decide_eq_true c]
          exact iteT (k true H2 s02 ⟨fun _ => fol_unique.mpr (.inl c), fun _ => rfl⟩)
        · rw [decide_eq_false c]
          refine iteF ?_
          refine split0 (hx.nm G) (fun Q2 q => ⟨_, rfl, p0, _, 1, _, rfl, rfl, SqL.of ew, atI_nat (k := 1) rfl, q⟩) fun H3 s3 => ?_
          refine ⟨_, rfl, o, _, rfl, .inl (SqL.of (s3 _ _ eo)), rfl, all_strs _ _, ?_⟩
          rw [show (if false = true then !inV (.str x.1) (ON.map V.str) else inV (.str x.1) (ON.map V.str)) = decide (x.1 ∈ ON) from names_in]
          exact k _ H3 (s02.trans s3) ⟨fun z => fol_unique.mpr (.inr ((ones _).mp (of_decide_eq_true z))), fun z => decide_eq_true ((ones _).mpr ((fol_unique.mp z).resolve_left c))⟩
      · rw [cmp_text, decide_eq_false (by decide +kernel)]
        refine iteF ⟨_, rfl, p0, _, 0, _, rfl, rfl, SqL.of ew, atI_nat (k := 0) rfl, rfl, _, rfl, ?_⟩
        rw [cmp_text, decide_eq_true rfl]
        refine iteT ⟨_, rfl, _, rfl, l, _, rfl, .inl (line (Same.refl _)), rfl, flat_lines _, decide ((("sorted" : Str), (x.1, some x.2), none) ∈ fs), congrArg V.bl (hin (.inr rfl)), ?_⟩
        by_cases c : (("sorted" : Str), (x.1, some x.2), (none : Option Place)) ∈ fs
        · rw [decide_eq_true c]
          exact iteT (k true H2 s02 ⟨fun _ => fol_sorted.mpr (.inl c), fun _ => rfl⟩)
        · rw [decide_eq_false c]
          refine iteF ⟨_, rfl, p0, _, 1, _, rfl, rfl, SqL.of ew, atI_nat (k := 1) rfl, _, rfl, sa, _, rfl, .inl (SqL.of es), rfl, flat_sp _, ?_⟩
          rw [show (if false = true then !inV (.str (sp x)) (SP.map spV) else inV (.str (sp x)) (SP.map spV)) = decide (x ∈ SP) from spots_in G hSP hx]
          exact k _ H2 s02 ⟨fun z => fol_sorted.mpr (.inr ((spots _).mp (of_decide_eq_true z)).2), fun z => decide_eq_true ((spots _).mpr ⟨hx, (fol_sorted.mp z).resolve_left c⟩)⟩
    | @found x y hx hy =>
      have ew : H2 p0 = some (.lst ([("found" : Str), sp x, ("in" : Str), sp y].map V.str)) := ew
      refine ⟨_, rfl, p0, _, 0, _, rfl, rfl, SqL.of ew, atI_nat (k := 0) rfl, rfl, _, rfl, ?_⟩
      rw [cmp_text, decide_eq_false (by decide +kernel)]
      refine iteF ⟨_, rfl, p0, _, 0, _, rfl, rfl, SqL.of ew, atI_nat (k := 0) rfl, rfl, _, rfl, ?_⟩
      rw [cmp_text, decide_eq_false (by decide +kernel)]
      refine iteF ⟨_, rfl, p0, _, 0, _, rfl, rfl, SqL.of ew, atI_nat (k := 0) rfl, rfl, _, rfl, ?_⟩
      rw [cmp_text, decide_eq_false (by decide +kernel)]
      refine iteF ⟨_, rfl, p0, _, 0, _, rfl, rfl, SqL.of ew, atI_nat (k := 0) rfl, rfl, _, rfl, ?_⟩
      rw [cmp_text, decide_eq_false (by decide +kernel)]
      refine iteF ⟨_, rfl, _, rfl, _, rfl, p0, _, 1, _, rfl, rfl, SqL.of ew, atI_nat (k := 1) rfl, _, rfl, p0, _, 3, _, rfl, rfl, SqL.of ew, atI_nat (k := 3) rfl, at_, l, qs, tabs, fs, x, y, rfl, s02 _ _ hat, Paired.mapP hT fun q t ⟨c, z1, z2⟩ => ⟨c, s02 _ _ z1, s02 _ _ z2⟩, hL2, hx, hy, fun b H3 s3 hb => k b H3 (s02.trans s3) (hb.trans fol_found.symm)⟩
end
end L2.Pf
set_option maxHeartbeats 2000000
namespace L2.Pf
open PySem PySem.Spec PyProof.Rows L2.Ev L2.Tpd L2.Seti L2.Gq L2.Enf L2.Sett L2.Itr L2.Dls L2.Own L2.Dsp L2.Dcs L2.Vls L2.Ent
section
variable {P : Program} {w : World} {K : PySem.W.Frag} {mg : Str → Option Value} {base : Heap}
def sp_some_of : Sp := fun vs H Q _ => ∃ (p c : Addr) (ns : List Int) (n : Nat) (a : Addr) (xs : List V) (m : Nat), vs = [.ref p, .ref a, .int (m : Int)] ∧ Pen H p c ns n ∧ H a = some (.lst xs) ∧ xs.length ≤ 1000 ∧ m ≤ 100 ∧ n ≤ 2 ^ 50 ∧
  ∀ ys r H', (∀ y ∈ ys, y ∈ xs) → ys.length ≤ m → H r = none → H' r = some (.lst ys) → Pen H' p c ns (n + m) → But p H H' → Q (.ref r) H'
theorem ok_some_of (T : TX K mg) (B : TB T base) : FnOk P w K mg base CX0 2 T.a_some_of T.fd_some_of p_some_of sp_some_of := by
  refine T.F_some_of.ok sc_some_of (fun vs H Q E h => ?_) (fun cdv A outer s H vs Q E hr h => ?_)
  · obtain ⟨p, c, ns, n, a, xs, m, rfl, _⟩ := h
    rfl
  · obtain ⟨p, c, ns, n, a, xs, m, rfl, hp, ha, hl, hm, hn, k⟩ := h
    refine ⟨_, (pss_cons (ps_par (i := 3) (j := 4) (by rfl) sc_some_of.nd rfl rfl (by decide) rfl rfl (pa_cons (pe_callTy (list_ofS (K := K)) (by rfl) T.z_list (by decide +kernel) (pa_cons (pv 1) pa_nil)) (pa_cons (pe_lstS pa_nil) pa_nil)) (by rfl))
  (pss_cons (ps_for PassesOwn.never rfl (pi_range1 (by rfl) T.z_range (pa_cons (pe_callB (call_min2 rfl) (by rfl) T.z_min (by decide +kernel) (pa_cons (pv 2) (pa_cons (pe_callB call_len_seq (by rfl) T.z_len (by decide +kernel) (pa_cons (pv 3) pa_nil)) pa_nil))) pa_nil)) (pg_name (i := 5) sc_some_of.nd rfl (Or.inl rfl)) (pss_one (ps_expr (pe_bm PySem.F.plainAttrs_list PySem.F.slot_list_append PySem.F.type_list_append mt_appendS (pv 4) (pa_cons (pe_bm PySem.F.plainAttrs_list PySem.F.slot_list_pop PySem.F.type_list_pop mt_popAt (pv 3) (pa_cons (pe_call (ok_draw T B) (hr.mono (by decide)) rfl T.g_draw T.F_draw.kp T.b_draw .nil pass0 (pa_cons (pv 0) (pa_cons (pe_callB call_len_seq (by rfl) T.z_len (by decide +kernel) (pa_cons (pv 3) pa_nil)) pa_nil))) pa_nil)) pa_nil)))))
  (pss_one (ps_ret (pv 4))))), ?_⟩
    refine ⟨_, rfl, a, _, rfl, .inl (SqL.of ha), fun r1 H1 n1 s1 e1 => ⟨(by show 0 ≤ sizeLine; decide), fun r2 H2 n2 s2 e2 => ⟨_, _, rfl, ?_⟩⟩⟩
    have s02 := s1.trans s2
    have n2H : H r2 = none := by
      cases e : H r2 with
      | none => rfl
      | some o => rw [s1 _ _ e] at n2; cases n2
    have n12 : r2 ≠ r1 := fun z => by rw [z, e1] at n2; cases n2
    have pne : ∀ {q : Addr}, H q = none → q ≠ p := fun hq => Ne.symm (ne_of_none hp.there.choose_spec hq)
    have cne : ∀ {q : Addr}, H q = none → q ≠ c := fun hq => Ne.symm (ne_of_none hp.cells hq)
    refine ⟨_, rfl, _, rfl, r1, _, rfl, .inl (SqL.of (s2 _ _ e1)), _, _, rfl, ?_⟩
    have ek : (if ((xs.length : Nat) : Int) < (m : Int) then ((xs.length : Nat) : Int) else (m : Int)) = ((min m xs.length : Nat) : Int) := by
      split <;> omega
    refine ⟨((min m xs.length : Nat) : Int), by rw [← ek], by omega, by omega, ?_⟩
    rw [Int.toNat_natCast]
    refine for_range (lo := 0) (n := min m xs.length) (fun j σ H' => ∃ (v5 : Option V) (rs fs : List V), σ = [some (.ref p), some (.ref a), some (.int (m : Int)), some (.ref r1), some (.ref r2), v5] ∧ H' r1 = some (.lst rs) ∧ H' r2 = some (.lst fs) ∧ fs.length = j ∧ rs.length = xs.length - j ∧ (∀ y ∈ fs, y ∈ xs) ∧ (∀ y ∈ rs, y ∈ xs) ∧ Pen H' p c ns (n + j) ∧ But p H H')
      ⟨none, xs, [], rfl, s2 _ _ e1, e2, rfl, rfl, fun y hy => (by cases hy), fun y hy => hy, hp.same s02, But.of s02⟩ ?_ ?_
    · rintro j σ H3 hj ⟨v5, rs, fs, rfl, e3, e4, lf, lr, mf, mr, hp3, b3⟩
      have hL : (0 : Int) < ((rs.length : Nat) : Int) := by omega
      refine ⟨_, rfl, .inl ⟨rfl, _, SqL.of e4⟩, _, rfl, .inl ⟨rfl, _, SqL.of e3⟩, _, rfl, _, rfl, r1, _, rfl, .inl (SqL.of e3), p, c, ns, _, _, rfl, hp3, by omega, hL, ok_small (by omega), fun d H4 d0 d1 hp4 b4 => ?_⟩
      have e34 := b4 _ _ (pne n1) e3
      have e44 := b4 _ _ (pne n2H) e4
      have hdl : d.toNat < rs.length := by omega
      refine ⟨r1, _, d, d.toNat, rs[d.toNat]'hdl, rfl, rfl, e34, by omega, by omega, seq_nat d0 d1, List.getElem?_eq_getElem hdl, ?_⟩
      refine ⟨r2, fs, _, rfl, rfl, by rw [upd_ne n12]; exact e44, small1000 (by omega), fun H5 b5 e5 => ?_⟩
      refine ⟨_, rs.eraseIdx d.toNat, fs ++ [rs[d.toNat]'hdl], rfl, b5 _ _ (Ne.symm n12) upd_same, e5, by rw [List.length_append, lf]; rfl, by rw [List.length_eraseIdx_of_lt hdl]; omega, fun y hy => ?_, fun y hy => mr y (List.mem_of_mem_eraseIdx hy), ?_, ?_⟩
      · rcases List.mem_append.mp hy with h | h
        · exact mf y h
        · rw [List.mem_singleton.mp h]; exact mr _ (List.getElem_mem hdl)
      · exact ((hp4.upd (pne n1) (cne n1)).but b5 (pne n2H) (cne n2H)).mono (by omega)
      · exact (But.own (b3.trans b4) n1).skip n2H b5
    · rintro σ H3 ⟨v5, rs, fs, rfl, e3, e4, lf, lr, mf, mr, hp3, b3⟩
      exact ⟨_, rfl, k fs r2 H3 mf (by omega) n2H e4 (hp3.mono (by omega)) b3⟩
end
end L2.Pf
set_option maxHeartbeats 2000000
namespace L2.Pf
open PySem PySem.Spec PyProof.Rows L2.Ev L2.Tpd L2.Seti L2.Gq L2.Enf L2.Sett L2.Itr L2.Dls L2.Own L2.Ent
theorem ixN_here {n : Nat} {j : Int} (h0 : 0 ≤ j) (h : j < n) : ixN n j = some j.toNat := by
  unfold ixN
  rw [if_pos h0, if_pos h]
/-- a dict of rows with a key put -/
def putD (dat : Dat) (x : Str) (rs : List (List Int)) : Dat := if (dat.any fun p => decide (p.1 = x)) = true then dat.map (fun p => if p.1 = x then (p.1, rs) else p) else dat ++ [(x, rs)]
theorem putD_new {dat : Dat} {x : Str} {rs : List (List Int)} (h : x ∉ dat.map (·.1)) : putD dat x rs = dat ++ [(x, rs)] := by
  unfold putD
  refine if_neg fun z => h ?_
  obtain ⟨p, hp, e⟩ := List.any_eq_true.mp z
  exact List.mem_map.mpr ⟨p, hp, of_decide_eq_true e⟩
theorem putD_last {dat : Dat} {x : Str} {r rs : List (List Int)} (h : x ∉ dat.map (·.1)) : putD (dat ++ [(x, r)]) x rs = dat ++ [(x, rs)] := by
  unfold putD
  rw [if_pos (List.any_eq_true.mpr ⟨(x, r), List.mem_append_right _ (List.mem_singleton_self _), decide_eq_true rfl⟩), List.map_append]
  congr 1
  · have z : dat.map (fun p => if p.1 = x then (p.1, rs) else p) = dat.map id := List.map_congr_left fun p hp => if_neg fun z => h (List.mem_map.mpr ⟨p, hp, z⟩)
    rw [z, List.map_id]
  · show [if x = x then (x, rs) else (x, r)] = _
    rw [if_pos rfl]
theorem paired_put {H : Hp} {kvs : List (Key × V)} {dat : Dat} {x : Str} {l : Addr} {rs : List (List Int)} (h : Paired (DatF H) kvs dat) (hr : RowsAt H l rs) : Paired (DatF H) (putK kvs (.inr x) (.ref l)) (putD dat x rs) := by
  have any : (kvs.any fun kv => decide (kv.1 = Sum.inr x)) = dat.any fun p => decide (p.1 = x) := by
    clear hr
    induction h with
    | nil => rfl
    | cons g t ih =>
      rename_i kv p r s
      rw [List.any_cons, List.any_cons, ih, g.1]
      congr 1
      exact decide_eq_decide.mpr ⟨fun z => Sum.inr.inj z, fun z => by rw [z]⟩
  unfold putK putD
  rw [any]
  split
  · rename_i c0
    clear any c0
    induction h with
    | nil => exact .nil
    | cons g t ih =>
      rename_i kv p r s
      refine .cons ?_ ih
      have e := g.1
      show DatF H (if kv.1 = Sum.inr x then (kv.1, V.ref l) else kv) (if p.1 = x then (p.1, rs) else p)
      by_cases c : p.1 = x
      · rw [if_pos c, if_pos (by rw [e, c])]
        exact ⟨e, l, rfl, hr⟩
      · rw [if_neg c, if_neg (fun z => c (by rw [e] at z; exact Sum.inr.inj z))]
        exact g
  · exact paired_snoc h ⟨rfl, l, rfl, hr⟩
/-- lists and tuples stay -/
def Lts (H H' : Hp) : Prop := (∀ b xs, H b = some (.lst xs) → H' b = some (.lst xs)) ∧ ∀ b xs, H b = some (.tup xs) → H' b = some (.tup xs)
theorem RowsAt.lts {H H' : Hp} {l : Addr} {rs : List (List Int)} (h : RowsAt H l rs) (k : Lts H H') : RowsAt H' l rs :=
  let ⟨qs, a, b⟩ := h
  ⟨qs, k.1 _ _ a, Paired.mapP b fun q r e => k.2 _ _ e⟩
theorem datF_lts {H H' : Hp} {kvs : List (Key × V)} {dat : Dat} (h : Paired (DatF H) kvs dat) (k : Lts H H') : Paired (DatF H') kvs dat :=
  Paired.mapP h fun kv p ⟨e, l, e2, hr⟩ => ⟨e, l, e2, hr.lts k⟩
theorem Lts.but {p : Addr} {H H' : Hp} (b : But p H H') (e : ∃ o, H p = some (.dK o)) : Lts H H' := by
  obtain ⟨o, e⟩ := e
  exact ⟨fun q xs z => b _ _ (fun z2 => by rw [z2, e] at z; cases z) z, fun q xs z => b _ _ (fun z2 => by rw [z2, e] at z; cases z) z⟩
theorem Lts.upd {d : Addr} {H : Hp} {o : HO} (e : ∃ o, H d = some (.dK o)) : Lts H (upd H d o) := by
  obtain ⟨o2, e⟩ := e
  exact ⟨fun q xs z => by rw [upd_ne (fun z2 => by rw [z2, e] at z; cases z)]; exact z, fun q xs z => by rw [upd_ne (fun z2 => by rw [z2, e] at z; cases z)]; exact z⟩
/-- a dict of rows that the law builds at d: the pen turns, all else of H stays -/
structure NR (p c d : Addr) (ns : List Int) (H H' : Hp) (dat : Dat) (N : Nat) : Prop where
  pen : Pen H' p c ns N
  but : But p H H'
  ne : d ≠ p
  nc : d ≠ c
  fresh : H d = none
  dict : ∃ kvs, H' d = some (.dK kvs) ∧ Paired (DatF H') kvs dat
theorem NR.step {p c d : Addr} {ns : List Int} {H H1 H2 : Hp} {dat : Dat} {N M : Nat} (h : NR p c d ns H H1 dat N) (b : But p H1 H2) (q : Pen H2 p c ns M) : NR p c d ns H H2 dat M where
  pen := q
  but := h.but.trans b
  ne := h.ne
  nc := h.nc
  fresh := h.fresh
  dict := let ⟨kvs, e, f⟩ := h.dict; ⟨kvs, b _ _ h.ne e, datF_lts f (Lts.but b h.pen.pre)⟩
theorem NR.put {p c d : Addr} {ns : List Int} {H H1 : Hp} {dat : Dat} {N : Nat} {x : Str} {l : Addr} {rs : List (List Int)} (h : NR p c d ns H H1 dat N) (hr : RowsAt H1 l rs) (hl : dat.length ≤ 1000) :
    ∃ H2, DPut H1 d (.str x) (.ref l) H2 ∧ NR p c d ns H H2 (putD dat x rs) N := by
  obtain ⟨kvs, e, f⟩ := h.dict
  refine ⟨_, DPut.k (k := .inr x) e (small1000 (by rw [Paired.length f]; exact hl)), ?_⟩
  exact ⟨h.pen.upd h.ne h.nc, But.own h.but h.fresh, h.ne, h.nc, h.fresh, _, upd_same, datF_lts (paired_put f hr) (Lts.upd ⟨_, e⟩)⟩
theorem NR.get {p c d : Addr} {ns : List Int} {H H1 : Hp} {dat : Dat} {N : Nat} {x : Str} {rs : List (List Int)} (h : NR p c d ns H H1 dat N) (e : rowsOf dat x = some rs) : ∃ l, DGet H1 d (.str x) (some (.ref l)) ∧ RowsAt H1 l rs := by
  obtain ⟨kvs, d1, d2⟩ := h.dict
  rcases dat_rows d2 x with ⟨v0, z⟩ | ⟨l, rs', v0, z, hr⟩
  · rw [e] at z; cases z
  rw [e] at z
  cases z
  refine ⟨l, ?_, hr⟩
  have z := DGet.k (k := .inr x) d1
  rw [v0] at z; exact z
theorem NR.datAt {p c d : Addr} {ns : List Int} {H H1 : Hp} {dat : Dat} {N : Nat} (h : NR p c d ns H H1 dat N) : DatAt H1 d dat := h.dict
/-- tables as the law draws them: each of the schema's, in its order -/
def FullDat (tabs : Tabs) (m : Nat) (dat : Dat) : Prop := dat.map (·.1) = tabs.map (·.1) ∧ ∀ (i : Nat) (t : Str × List Str) (p : Str × List (List Int)), tabs[i]? = some t → dat[i]? = some p → p.2.length ≤ m ∧ ∀ r ∈ p.2, r.length = t.2.length
theorem FullDat.len {tabs : Tabs} {m : Nat} {dat : Dat} (h : FullDat tabs m dat) : dat.length = tabs.length := by
  have z := congrArg List.length h.1
  simpa using z
theorem FullDat.snoc {tabs : Tabs} {m : Nat} {dat : Dat} {t : Str × List Str} {rs : List (List Int)} (h : FullDat tabs m dat) (h1 : rs.length ≤ m) (h2 : ∀ r ∈ rs, r.length = t.2.length) : FullDat (tabs ++ [t]) m (dat ++ [(t.1, rs)]) := by
  have l := h.len
  refine ⟨by rw [List.map_append, List.map_append, h.1]; rfl, fun i t2 p e1 e2 => ?_⟩
  by_cases c : i < tabs.length
  · rw [List.getElem?_append_left c] at e1
    rw [List.getElem?_append_left (by omega)] at e2
    exact h.2 i t2 p e1 e2
  · rw [List.getElem?_append_right (by omega)] at e1 e2
    have c0 : i - tabs.length = 0 := by
      have z := (List.getElem?_eq_some_iff.mp e1).1
      simp at z; omega
    rw [c0] at e1
    rw [l, c0] at e2
    cases e1
    cases e2
    exact ⟨h1, h2⟩
theorem FullDat.out {tabs : Tabs} {m : Nat} {dat : Dat} {i : Nat} {t : Str × List Str} (h : FullDat (tabs.take i) m dat) (nd : (tabs.map (·.1)).Nodup) (e : tabs[i]? = some t) : t.1 ∉ dat.map (·.1) := by
  obtain ⟨hi, e⟩ := List.getElem?_eq_some_iff.mp e
  rw [h.1]
  intro z
  obtain ⟨t2, h2, e2⟩ := List.mem_map.mp z
  obtain ⟨j, hj, e3⟩ := List.mem_take_iff_getElem.mp h2
  have hj2 : j < i := by omega
  have hjl : j < tabs.length := by omega
  have z1 : (tabs.map (·.1))[j]'(by rw [List.length_map]; exact hjl) = (tabs.map (·.1))[i]'(by rw [List.length_map]; exact hi) := by
    rw [List.getElem_map, List.getElem_map, e, e3, e2]
  exact List.pairwise_iff_getElem.mp nd j i (by rw [List.length_map]; exact hjl) (by rw [List.length_map]; exact hi) hj2 z1
theorem nodup_ix {tabs : Tabs} (nd : (tabs.map (·.1)).Nodup) {i j : Nat} {t u : Str × List Str} (e : tabs[i]? = some t) (e2 : tabs[j]? = some u) (h : t.1 = u.1) : i = j := by
  obtain ⟨hi, e⟩ := List.getElem?_eq_some_iff.mp e
  obtain ⟨hj, e2⟩ := List.getElem?_eq_some_iff.mp e2
  have ne : ∀ {a b : Nat} (ha : a < tabs.length) (hb : b < tabs.length), a < b → tabs[a].1 ≠ tabs[b].1 := fun {a b} ha hb hab => by
    have z := List.pairwise_iff_getElem.mp nd a b (by rw [List.length_map]; exact ha) (by rw [List.length_map]; exact hb) hab
    rw [List.getElem_map, List.getElem_map] at z
    exact z
  rcases Nat.lt_trichotomy i j with c | c | c
  · exact absurd (by rw [e, e2, h]) (ne hi hj c)
  · exact c
  · exact absurd (by rw [e, e2, h]) (ne hj hi c)
theorem FullDat.get {tabs : Tabs} {m : Nat} {dat : Dat} (h : FullDat tabs m dat) (nd : (tabs.map (·.1)).Nodup) {i : Nat} {t : Str × List Str} (e : tabs[i]? = some t) : ∃ rs, rowsOf dat t.1 = some rs ∧ rs.length ≤ m ∧ ∀ r ∈ rs, r.length = t.2.length := by
  have hm : t.1 ∈ dat.map (·.1) := by
    rw [h.1]
    exact List.mem_map.mpr ⟨t, List.mem_of_getElem? e, rfl⟩
  obtain ⟨p0, hp0, ep0⟩ := List.mem_map.mp hm
  cases c : dat.find? (fun p => decide (p.1 = t.1)) with
  | none => exact absurd (decide_eq_true ep0) (List.find?_eq_none.mp c p0 hp0)
  | some q =>
    have hq := List.mem_of_find?_eq_some c
    have eq : q.1 = t.1 := by
      have z := List.find?_some c
      simpa using z
    obtain ⟨j, hj, ej⟩ := List.getElem_of_mem hq
    have hjt : j < tabs.length := by rw [← h.len]; exact hj
    have ek : tabs[j].1 = q.1 := by
      have z := congrArg (fun l => l[j]?) h.1
      simp only [List.getElem?_map, List.getElem?_eq_getElem hj, List.getElem?_eq_getElem hjt, Option.map_some, ej] at z
      exact (Option.some.inj z).symm
    have ij := nodup_ix nd e (List.getElem?_eq_getElem hjt) (by rw [ek, eq])
    subst ij
    obtain ⟨a, b⟩ := h.2 i t q e (by rw [List.getElem?_eq_getElem hj, ej])
    exact ⟨q.2, by unfold rowsOf; rw [c]; rfl, a, b⟩
theorem FullDat.put {tabs : Tabs} {m : Nat} {dat : Dat} (h : FullDat tabs m dat) (nd : (tabs.map (·.1)).Nodup) {i : Nat} {t : Str × List Str} (e : tabs[i]? = some t) {rs : List (List Int)} (h1 : rs.length ≤ m) (h2 : ∀ r ∈ rs, r.length = t.2.length) : FullDat tabs m (putD dat t.1 rs) := by
  have hm : t.1 ∈ dat.map (·.1) := by
    rw [h.1]
    exact List.mem_map.mpr ⟨t, List.mem_of_getElem? e, rfl⟩
  obtain ⟨p0, hp0, ep0⟩ := List.mem_map.mp hm
  have ep : putD dat t.1 rs = dat.map (fun p => if p.1 = t.1 then (p.1, rs) else p) := by
    unfold putD
    exact if_pos (List.any_eq_true.mpr ⟨p0, hp0, decide_eq_true ep0⟩)
  rw [ep]
  refine ⟨?_, fun j u q e1 e2 => ?_⟩
  · rw [List.map_map, ← h.1]
    refine List.map_congr_left fun p _ => ?_
    show (if p.1 = t.1 then (p.1, rs) else p).1 = p.1
    by_cases c : p.1 = t.1
    · rw [if_pos c]
    · rw [if_neg c]
  · rw [List.getElem?_map] at e2
    obtain ⟨p, e3, e4⟩ := Option.map_eq_some_iff.mp e2
    by_cases c : p.1 = t.1
    · rw [if_pos c] at e4
      subst e4
      have ek : u.1 = p.1 := by
        have z := congrArg (fun l => l[j]?) h.1
        simp only [List.getElem?_map, e1, e3, Option.map_some] at z
        exact (Option.some.inj z).symm
      have ij := nodup_ix nd e e1 (by rw [ek, c])
      subst ij
      rw [e] at e1
      cases e1
      exact ⟨h1, h2⟩
    · rw [if_neg c] at e4
      subst e4
      exact h.2 j u p e1 e3
theorem PlainAt.but {p c : Addr} {ns : List Int} {n : Nat} {H H' : Hp} {a : Addr} {tabs : Tabs} (h : PlainAt H a tabs) (q : Pen H p c ns n) (b : But p H H') : PlainAt H' a tabs := by
  obtain ⟨l, i, bb, qs, h1, h2, h3⟩ := h
  have k := Lts.but b q.pre
  refine ⟨l, i, bb, qs, b _ _ (fun z => ?_) h1, k.1 _ _ h2, Paired.mapP h3 fun q t ⟨c, e1, e2⟩ => ⟨c, k.2 _ _ e1, k.1 _ _ e2⟩⟩
  obtain ⟨t, l2, e, _⟩ := q.d
  rw [z, e] at h1
  cases h1
theorem NR.mono {p c d : Addr} {ns : List Int} {H H1 : Hp} {dat : Dat} {N M : Nat} (h : NR p c d ns H H1 dat N) (k : N ≤ M) : NR p c d ns H H1 dat M := ⟨h.pen.mono k, h.but, h.ne, h.nc, h.fresh, h.dict⟩
theorem rowsOf_last {dat : Dat} {x : Str} {r : List (List Int)} (h : x ∉ dat.map (·.1)) : rowsOf (dat ++ [(x, r)]) x = some r := by
  unfold rowsOf
  rw [List.find?_append, List.find?_eq_none.mpr fun p hp z => h (List.mem_map.mpr ⟨p, hp, of_decide_eq_true z⟩), Option.none_or, List.find?_cons, decide_eq_true rfl]
  rfl
end L2.Pf
set_option maxHeartbeats 2000000
namespace L2.Pf
open PySem PySem.Spec PyProof.Rows L2.Ev L2.Tpd L2.Seti L2.Gq L2.Enf L2.Sett L2.Itr L2.Dls L2.Own L2.Dsp L2.Dcs L2.Vls L2.Ent
section
variable {P : Program} {w : World} {K : PySem.W.Frag} {mg : Str → Option Value} {base : Heap}
theorem NR.over {p c d l0 : Addr} {ns : List Int} {H H1 H' : Hp} {dat : Dat} {N M : Nat} (h : NR p c d ns H H1 dat N) (n2 : H1 l0 = none) (b : ∀ q o, q ≠ p → q ≠ l0 → H1 q = some o → H' q = some o) (pn : Pen H' p c ns M) : NR p c d ns H H' dat M where
  pen := pn
  but := fun q o n e => b q o n (fun z => by have z2 := h.but q o n e; rw [z, n2] at z2; cases z2) (h.but q o n e)
  ne := h.ne
  nc := h.nc
  fresh := h.fresh
  dict := by
    obtain ⟨kvs, e, f⟩ := h.dict
    have nl : ∀ {q : Addr} {o : HO}, H1 q = some o → q ≠ l0 := fun e z => by rw [z, n2] at e; cases e
    obtain ⟨op, ep⟩ := h.pen.pre
    exact ⟨kvs, b _ _ h.ne (nl e) e, datF_lts f ⟨fun q xs z => b _ _ (fun z2 => by rw [z2, ep] at z; cases z) (nl z) z, fun q xs z => b _ _ (fun z2 => by rw [z2, ep] at z; cases z) (nl z) z⟩⟩
def sp_small_rows : Sp := fun vs H Q _ => ∃ (p c : Addr) (ns : List Int) (n : Nat) (a : Addr) (qs : List Addr) (tabs : Tabs), vs = [.ref p, .ref a] ∧ Pen H p c ns n ∧ n ≤ 2 ^ 48 ∧ H a = some (.lst (qs.map V.ref)) ∧ TabsAt H qs tabs ∧ DrawnTabs 4 tabs ∧
  ∀ (dat : Dat) d H', FullDat tabs 10 dat → H d = none → DatAt H' d dat → Pen H' p c ns (n + 100) → But p H H' → Q (.ref d) H'
theorem ok_small_rows (T : TX K mg) (B : TB T base) : FnOk P w K mg base CX0 2 T.a_small_rows T.fd_small_rows p_small_rows sp_small_rows := by
  refine T.F_small_rows.ok sc_small_rows (fun vs H Q E h => ?_) (fun cdv A outer s H vs Q E hr h => ?_)
  · obtain ⟨p, c, ns, n, a, qs, tabs, rfl, _⟩ := h
    rfl
  · obtain ⟨p, c, ns, n, a, qs, tabs, rfl, hp, hn, ha, hT, D4, k⟩ := h
    refine ⟨_, (pss_cons (ps_set (i := 2) sc_small_rows.nd rfl (Or.inl rfl) pe_dnewK)
  (pss_cons (ps_for PassesOwn.never rfl (pi_list (pv 1)) (pg_tup rfl (pgs_cons (pg_name (i := 3) sc_small_rows.nd rfl (Or.inl rfl)) (pgs_cons (pg_name (i := 4) sc_small_rows.nd rfl (Or.inl rfl)) pgs_nil))) (pss_cons (ps_set (i := 5) sc_small_rows.nd rfl (Or.inl rfl) (pe_lstS pa_nil))
  (pss_cons (ps_for PassesOwn.never rfl (pi_range1 (by rfl) T.z_range (pa_cons (pe_call (ok_draw T B) (hr.mono (by decide)) rfl T.g_draw T.F_draw.kp T.b_draw .nil pass0 (pa_cons (pv 0) (pa_cons pe_int pa_nil))) pa_nil)) (pg_name (i := 6) sc_small_rows.nd rfl (Or.inl rfl)) (pss_one (ps_expr (pe_bm PySem.F.plainAttrs_list PySem.F.slot_list_append PySem.F.type_list_append mt_appendS (pv 5) (pa_cons (pe_callTy call_tuple_of (by rfl) T.z_tuple (by decide +kernel) (pa_cons (pe_lc (own := [("_law_column", 7)]) (g := gName 7) (tt := tYes) rfl sc_small_rows.nd (pi_list (pv 4)) (blkOk_by (own := [("_law_column", 7)]) (N := n_small_rows) (sc := defScope s_small_rows) (by decide +kernel)) (fun _ _ _ _ _ => (pg_name (i := 7) sc_small_rows.nd rfl (Or.inl rfl))) (fun _ _ _ _ _ => pts_nil) (fun _ _ _ _ _ => (pe_call (ok_draw T B) (hr.mono (by decide)) rfl T.g_draw T.F_draw.kp T.b_draw .nil pass0 (pa_cons (pv 0) (pa_cons pe_int pa_nil))))) pa_nil)) pa_nil)))))
  (pss_one (ps_dput (hu_of hr) (pv 2) (pv 3) (pv 5) rfl)))))
  (pss_one (ps_ret (pv 2))))), ?_⟩
    refine fun d hd => ?_
    have pD : ∀ {H : Hp} {k : Nat}, Pen H p c ns k → ∃ o, H p = some (.dK o) := fun q => q.pre
    have ndp : d ≠ p := fun z => by
      obtain ⟨o, e⟩ := pD hp
      rw [z, e] at hd; cases hd
    have ndc : d ≠ c := fun z => by
      have e := hp.cells
      rw [← z, hd] at e; cases e
    have r0 : NR p c d ns H (upd H d (.dK [])) [] n := ⟨hp.new hd, But.new (But.refl p H) hd, ndp, ndc, hd, [], upd_same, .nil⟩
    generalize upd H d (.dK []) = H0 at r0
    have hql := Paired.length hT
    have h4 := D4.few
    have keep : ∀ {H' : Hp} {dat : Dat} {N : Nat}, NR p c d ns H H' dat N → ∀ {b : Addr} {xs : List V}, H b = some (.lst xs) → H' b = some (.lst xs) := fun q b xs e => (Lts.but q.but (pD hp)).1 _ _ e
    have keepT : ∀ {H' : Hp} {dat : Dat} {N : Nat}, NR p c d ns H H' dat N → ∀ {b : Addr} {xs : List V}, H b = some (.tup xs) → H' b = some (.tup xs) := fun q b xs e => (Lts.but q.but (pD hp)).2 _ _ e
    refine ⟨_, rfl, a, rfl, ⟨_, SqL.of (keep r0 ha)⟩, ?_⟩
    refine for_list (xs := qs.map V.ref) (fun i σ H' => ∃ (v3 v4 v5 v6 v7 : Option V) (dat : Dat), σ = [some (.ref p), some (.ref a), some (.ref d), v3, v4, v5, v6, v7] ∧ NR p c d ns H H' dat (n + 20 * i) ∧ FullDat (tabs.take i) 10 dat) ?_ (fun i σ H' _ ⟨_, _, _, _, _, _, _, q, _⟩ => SqL.of (keep q ha)) ?_ ?_
    · exact ⟨none, none, none, none, none, [], rfl, r0, rfl, fun i t p e _ => by simp at e⟩
    · rintro i x σ H1 hx ⟨v3, v4, v5, v6, v7, dat, rfl, q1, f1⟩
      have hi : i < tabs.length := by
        rcases Nat.lt_or_ge i tabs.length with h | h
        · exact h
        · rw [List.getElem?_eq_none (by rw [List.length_map]; omega)] at hx; cases hx
      rw [List.getElem?_map, List.getElem?_eq_getElem (show i < qs.length by omega)] at hx
      cases hx
      obtain ⟨cl, g1, g2⟩ := paired_get hT (List.getElem?_eq_getElem (show i < qs.length by omega)) (List.getElem?_eq_getElem hi)
      have et : tabs[i]? = some tabs[i] := List.getElem?_eq_getElem hi
      have hout := f1.out D4.nd et
      have hdl := f1.len
      rw [List.length_take] at hdl
      obtain ⟨cN1, cN2, _, _⟩ := D4.cols _ (List.getElem_mem hi)
      generalize tabs[i] = t at g1 g2 et hout cN1 cN2
      refine ⟨_, _, rfl, SqT.of (keepT q1 g1), rfl, _, _, rfl, _, _, rfl, rfl, ?_⟩
      refine ⟨(by show 0 ≤ sizeLine; decide), fun l0 H2 n2 s2 e2 => ?_⟩
      have q2 := q1.step (But.of s2) (q1.pen.same s2)
      have l0p : l0 ≠ p := fun z => by
        obtain ⟨o, e⟩ := q1.pen.pre
        rw [z, e] at n2; cases n2
      have l0c : l0 ≠ c := fun z => by
        have e := q1.pen.cells
        rw [← z, n2] at e; cases e
      have l0d : l0 ≠ d := fun z => by
        obtain ⟨kvs, e, _⟩ := q1.dict
        rw [z, e] at n2; cases n2
      refine ⟨_, rfl, p, c, ns, _, 3, rfl, q2.pen, by omega, by decide, ok_small (by decide), fun d0 H3 d1 d2 hp3 b3 => ?_⟩
      have e3 := b3 _ _ l0p e2
      have nl : ∀ {q : Addr} {o : HO}, H1 q = some o → q ≠ l0 := fun e z => by rw [z, n2] at e; cases e
      have hc1 : H1 cl = some (.lst (t.2.map V.str)) := keep q1 g2
      have clp : cl ≠ p := fun z => by
        obtain ⟨o, e⟩ := q1.pen.pre
        rw [z, e] at hc1; cases hc1
      refine ⟨d0, rfl, by omega, by omega, ?_⟩
      refine for_range (lo := 0) (n := d0.toNat) (fun j σ H' => ∃ (v6 v7 : Option V) (rs : List (List Int)) (qr : List Addr), σ = [some (.ref p), some (.ref a), some (.ref d), some (.str t.1), some (.ref cl), some (.ref l0), v6, v7] ∧ H' l0 = some (.lst (qr.map V.ref)) ∧ Paired (RowAt H') qr rs ∧ (∀ q o, q ≠ p → q ≠ l0 → H1 q = some o → H' q = some o) ∧ Pen H' p c ns (n + 20 * i + 1 + 4 * j) ∧ rs.length = j ∧ ∀ r ∈ rs, r.length = t.2.length) ⟨v6, v7, [], [], rfl, e3, .nil, fun q o n1 n2 e => b3 _ _ n1 (s2 _ _ e), hp3, rfl, fun r hr => by cases hr⟩ ?_ ?_
      · rintro j σ H5 hj ⟨v6, v7, rs, qr, rfl, e5, p5, i5, q5, hrs, hrl⟩
        have hc5 : H5 cl = some (.lst (t.2.map V.str)) := i5 _ _ clp (nl hc1) hc1
        have hqr := Paired.length p5
        refine ⟨_, rfl, .inl ⟨rfl, _, SqL.of e5⟩, _, rfl, cl, rfl, ⟨_, SqL.of hc5⟩, fun D hD => ?_⟩
        have nDp : D ≠ p := fun z => by
          obtain ⟨o, e⟩ := q5.pre
          rw [z, e] at hD; cases hD
        have nDc : D ≠ c := fun z => by
          have e := q5.cells
          rw [← z, hD] at e; cases e
        refine lc_growB (n := t.2.length) (p := p) hD nDp (fun k acc Hc => Pen Hc p c ns (n + 20 * i + 1 + 4 * j + k) ∧ ∃ r : List Int, acc = r.map V.int ∧ r.length = k) ?_ ?_ ?_ ?_ (small1000 (by omega)) ?_ ?_
        · rintro k acc Hc o ⟨u1, u2⟩ _
          exact ⟨u1.upd nDp nDc, u2⟩
        · exact fun Hc s => ⟨q5.same s, [], rfl, rfl⟩
        · exact fun k Hc hk b => ⟨_, V.str (t.2[k]'hk), SqL.of ((Lts.but b q5.pre).1 _ _ hc5), by rw [List.getElem?_map, List.getElem?_eq_getElem hk]; rfl⟩
        · exact fun Hc b => ⟨_, SqL.of ((Lts.but b q5.pre).1 _ _ hc5), by rw [List.length_map]; exact Nat.le_refl _⟩
        · rintro k acc Hc F G' hF hG' hk hb hacc ⟨u1, r, rfl, u3⟩ x Hc' ⟨eH, ev⟩
          subst eH
          refine ⟨rfl, _, rfl, p, c, ns, _, 2, rfl, u1, by omega, by decide, ok_small (by decide), fun f0 H6 f1 f2 hp6 b6 => hF _ H6 b6 ⟨hp6.mono (by omega), r ++ [f0], by rw [List.map_append]; rfl, by rw [List.length_append, u3]; rfl⟩⟩
        · rintro acc H6 b6 hacc ⟨u1, r, rfl, u3⟩
          refine ⟨D, _, rfl, .inl ⟨SqL.of hacc, fun qt nqt => ?_⟩⟩
          have sq : Same H6 (upd H6 qt (.tup (r.map V.int))) := Same.new (Same.refl _) nqt
          have eq : (upd H6 qt (.tup (r.map V.int))) qt = some (.tup (r.map V.int)) := upd_same
          generalize upd H6 qt (.tup (r.map V.int)) = H7 at sq eq
          have b57 : But p H5 H7 := b6.trans (But.of sq)
          have hqt : H5 qt = none := by
            obtain ⟨o, e⟩ := u1.pre
            exact But.free b6 e nqt
          refine ⟨l0, _, _, rfl, rfl, b57 _ _ l0p e5, small1000 (by rw [List.length_map]; omega), fun H8 b8 e8 => ?_⟩
          have qtl : qt ≠ l0 := fun z => by rw [z, e5] at hqt; cases hqt
          have kT : ∀ {q : Addr} {r : List Int}, RowAt H5 q r → RowAt H8 q r := fun {q r} e => b8 _ _ (fun z => by
            have e : H5 q = some (.tup (r.map V.int)) := e
            rw [z, e5] at e; cases e) (b57 _ _ (fun z => by
            have e : H5 q = some (.tup (r.map V.int)) := e
            obtain ⟨o, e2⟩ := q5.pre
            rw [z, e2] at e; cases e) e)
          refine ⟨_, _, rs ++ [r], qr ++ [qt], rfl, by rw [List.map_append]; exact e8, paired_snoc (Paired.mapP p5 fun q r e => kT e) (b8 _ _ qtl eq), fun q o n1 n2 e => b8 _ _ n2 (b57 _ _ n1 (i5 q o n1 n2 e)), ((u1.same sq).but b8 l0p l0c).mono (by omega), by rw [List.length_append, hrs]; rfl, fun r hr => ?_⟩
          rcases List.mem_append.mp hr with h | h
          · exact hrl r h
          · rw [List.mem_singleton.mp h]; exact u3
      · rintro σ H5 ⟨v6, v7, rs, qr, rfl, e5, p5, i5, hp5, hrs, hrl⟩
        have q5 := q1.over n2 i5 hp5
        obtain ⟨HB, pB, qB⟩ := q5.put (x := t.1) (l := l0) (rs := rs) ⟨qr, e5, p5⟩ (by omega)
        rw [putD_new hout] at qB
        refine ⟨_, rfl, _, rfl, _, rfl, d, HB, rfl, pB, ?_⟩
        refine ⟨_, _, _, _, _, _, rfl, qB.mono (by omega), ?_⟩
        rw [List.take_add_one, et]
        exact f1.snoc (by omega) hrl
    · rintro σ H1 ⟨v3, v4, v5, v6, v7, dat, rfl, q1, f1⟩
      rw [List.length_map, hql, List.take_length] at f1
      rw [List.length_map] at q1
      exact ⟨_, rfl, k dat d H1 f1 hd q1.datAt (q1.pen.mono (by omega)) q1.but⟩
end
end L2.Pf
set_option maxHeartbeats 2000000
namespace L2.Pf
open PySem PySem.Spec PyProof.Rows L2.Ev L2.Tpd L2.Seti L2.Gq L2.Enf L2.Sett L2.Itr L2.Dls L2.Own L2.Dsp L2.Dcs L2.Vls L2.Ent
section
variable {P : Program} {w : World} {K : PySem.W.Frag} {mg : Str → Option Value} {base : Heap}
theorem fct_form {tabs : Tabs} (G : ∀ t ∈ tabs, GoodTab t) (nd : (tabs.map (·.1)).Nodup) {f : Fact} (h : Fct tabs f) : Form tabs (lineT f) := by
  have e := line_read G nd h
  have s := line_split G h
  rw [s] at e
  cases h with
  | @table t w ht hw => exact .table ht hw s e
  | @column x w hx hw =>
    obtain ⟨t, ht, e1, hy⟩ := hx
    have s : Txt.split (lineT (w, (x.1, some x.2), none)) " " = [w, spotOf x.1 x.2] := s
    have e : readWords tabs [w, spotOf x.1 x.2] = some (w, (x.1, some x.2), none) := e
    rw [e1] at s e
    refine .column ht hy hw ?_ e
    rw [← s, ← e1]
  | @found x y hx hy =>
    obtain ⟨t, ht, e1, hy1⟩ := hx
    obtain ⟨u, hu, e2, hy2⟩ := hy
    have s : Txt.split (lineT (("found" : Str), (x.1, some x.2), some (y.1, some y.2))) " " = [("found" : Str), spotOf x.1 x.2, ("in" : Str), spotOf y.1 y.2] := s
    have e : readWords tabs [("found" : Str), spotOf x.1 x.2, ("in" : Str), spotOf y.1 y.2] = some (("found" : Str), (x.1, some x.2), some (y.1, some y.2)) := e
    rw [e1, e2] at s e
    refine .found ht hy1 hu hy2 ?_ e
    rw [← s, ← e1, ← e2]
theorem line_kept {tabs : Tabs} (G : ∀ t ∈ tabs, GoodTab t) (nd : (tabs.map (·.1)).Nodup) {f : Fact} (h : Fct tabs f) (dat : Dat) : lineKept tabs dat (lineT f) = keepsB tabs dat f := by
  unfold lineKept
  rw [line_read G nd h]
def sp_keeps_all : Sp := fun vs H Q _ => ∃ (a l d : Addr) (fs : List Fact) (tabs : Tabs) (dat : Dat), vs = [.ref a, .ref l, .ref d] ∧ PlainAt H a tabs ∧ H l = some (.lst (linesV fs)) ∧ fs.length ≤ 100 ∧ (∀ f ∈ fs, Fct tabs f) ∧ DatAt H d dat ∧ DatOk tabs dat ∧ DrawnTabs 4 tabs ∧
  ∀ H', Same H H' → Q (.bl (fs.all fun f => keepsB tabs dat f)) H'
theorem ok_keeps_all (T : TX K mg) (B : TB T base) : FnOk P w K mg base CX0 3 T.a_keeps_all T.fd_keeps_all p_keeps_all sp_keeps_all := by
  refine T.F_keeps_all.ok sc_keeps_all (fun vs H Q E h => ?_) (fun cdv A outer s H vs Q E hr h => ?_)
  · obtain ⟨a, l, d, fs, tabs, dat, rfl, _⟩ := h
    rfl
  · obtain ⟨a, l, d, fs, tabs, dat, rfl, hP, hl, hn, hf, hD, hO, D4, k⟩ := h
    refine ⟨_, (pss_one (ps_ret (pe_cmpR (op_eqNil hr.units0) (pe_lc (own := [("_law_fact", 3)]) (g := gName 3) (tt := _) rfl sc_keeps_all.nd (pi_list (pv 1)) (blkOk_by (own := [("_law_fact", 3)]) (N := n_keeps_all) (sc := defScope s_keeps_all) (by decide +kernel)) (fun _ _ _ _ _ => (pg_name (i := 3) sc_keeps_all.nd rfl (Or.inl rfl))) (fun _ _ _ _ _ => pts_one (pt_not (pt_val (pe_call (ok_keeps T B) (hr.mono (by decide)) rfl T.g_keeps T.F_keeps.kp T.b_keeps .nil pass0 (pa_cons (pv 0) (pa_cons (pv 3) (pa_cons (pv 2) pa_nil))))))) (fun _ _ _ _ _ => (pv 3))) (pe_lstS pa_nil) (nomark _)))), ?_⟩
    have G := D4.good
    have nd := D4.nd
    have hml : (linesV fs).length = fs.length := List.length_map ..
    refine ⟨_, rfl, l, rfl, ⟨_, SqL.of hl⟩, fun D0 hD0 => ?_⟩
    refine lc_grow (n := fs.length) hD0 (fun i acc H' => acc = linesV ((fs.take i).filter fun f => !keepsB tabs dat f)) (fun i acc H' o hp _ => hp) (fun _ _ => rfl)
      (fun i H' hi s1 => ⟨_, V.str (lineT fs[i]), SqL.of (s1 _ _ hl), by show (fs.map _)[i]? = _; rw [List.getElem?_map, List.getElem?_eq_getElem hi]; rfl⟩) (fun H' s1 => ⟨_, SqL.of (s1 _ _ hl), by rw [hml]; exact Nat.le_refl _⟩) (small1000 (by omega)) (fun i acc H' F G' hF hG hi s1 hacc hp v H2 yl => ?_) (fun acc H1 s1 ha hp => ?_)
    · obtain ⟨eH, ev⟩ := yl
      subst eH
      have ev := ev _ (SqL.of (s1 _ _ hl))
      rw [show (linesV fs)[i]? = some (V.str (lineT fs[i])) by show (fs.map _)[i]? = _; rw [List.getElem?_map, List.getElem?_eq_getElem hi]; rfl] at ev
      cases ev
      have hfi := hf _ (List.getElem_mem hi)
      have z := line_len G hfi
      have et : (fs.take (i + 1)).filter (fun f => !keepsB tabs dat f) = (fs.take i).filter (fun f => !keepsB tabs dat f) ++ if (!keepsB tabs dat fs[i]) = true then [fs[i]] else [] := by
        rw [List.take_add_one, List.getElem?_eq_getElem hi, List.filter_append]
        congr 1
        show List.filter _ [fs[i]] = _
        rw [List.filter_cons]; rfl
      refine ⟨rfl, _, rfl, _, rfl, _, rfl, a, d, _, tabs, dat, rfl, hP.keep s1, hD.same s1, hO, D4, fct_form G nd hfi, by omega, fun H3 s3 => ?_⟩
      rw [line_kept G nd hfi]
      refine ⟨keepsB tabs dat fs[i], rfl, ?_⟩
      cases e : keepsB tabs dat fs[i] with
      | true =>
        refine iteF (hG _ s3 ?_)
        rw [et, e, hp, if_neg (by decide), List.append_nil]
      | false =>
        refine iteT ⟨_, rfl, hF _ _ s3 ?_⟩
        rw [et, e, hp, if_pos (show (!false) = true from rfl)]
        unfold linesV
        rw [List.map_append]; rfl
    · rw [List.take_length] at hp
      subst hp
      refine ⟨(by show 0 ≤ sizeLine; decide), fun l1 H2 n2 s2 e2 => ⟨D0, l1, _, rfl, rfl, SqL.of (s2 _ _ ha), SqL.of e2, ?_⟩⟩
      have e : (linesV (fs.filter fun f => !keepsB tabs dat f)).isEmpty = fs.all fun f => keepsB tabs dat f := by
        clear ha hl hn hf hml k
        induction fs with
        | nil => rfl
        | cons f r ih =>
          rw [List.filter_cons, List.all_cons]
          cases c : keepsB tabs dat f with
          | true =>
            rw [if_neg (by decide), Bool.true_and]
            exact ih
          | false => rw [if_pos (show (!false) = true from rfl)]; rfl
      have z2 : Q (.bl ((linesV (fs.filter fun f => !keepsB tabs dat f)).isEmpty)) H2 := by rw [e]; exact k H2 (s1.trans s2)
      exact z2
end
end L2.Pf
set_option maxHeartbeats 2000000
namespace L2.Pf
open PySem PySem.Spec PyProof.Rows L2.Ev L2.Tpd L2.Seti L2.Gq L2.Enf L2.Sett L2.Itr L2.Dls L2.Own L2.Dsp L2.Dcs L2.Vls L2.Ent
section
variable {P : Program} {w : World} {K : PySem.W.Frag} {mg : Str → Option Value} {base : Heap}
theorem line_single {t : Str} : ("single " : Str) ++ t = lineT (("single" : Str), (t, none), none) := by
  show _ = ("single" : Str) ++ " " ++ t
  rw [show ("single " : Str) = ("single" : Str) ++ " " by decide +kernel]
theorem line_filled {t : Str} : ("filled " : Str) ++ t = lineT (("filled" : Str), (t, none), none) := by
  show _ = ("filled" : Str) ++ " " ++ t
  rw [show ("filled " : Str) = ("filled" : Str) ++ " " by decide +kernel]
theorem line_unique {x : CP} : ("unique " : Str) ++ sp x = lineT (("unique" : Str), (x.1, some x.2), none) := by
  show _ = ("unique" : Str) ++ " " ++ sp x
  rw [show ("unique " : Str) = ("unique" : Str) ++ " " by decide +kernel]
theorem line_sorted {x : CP} : ("sorted " : Str) ++ sp x = lineT (("sorted" : Str), (x.1, some x.2), none) := by
  show _ = ("sorted" : Str) ++ " " ++ sp x
  rw [show ("sorted " : Str) = ("sorted" : Str) ++ " " by decide +kernel]
theorem line_found {x y : CP} : ("found " : Str) ++ sp x ++ " in " ++ sp y = lineT (("found" : Str), (x.1, some x.2), some (y.1, some y.2)) := link_text
def sp_all_lines : Sp := fun vs H Q _ => ∃ (a : Addr) (qs : List Addr) (tabs : Tabs), vs = [.ref a] ∧ H a = some (.lst (qs.map V.ref)) ∧ TabsAt H qs tabs ∧ DrawnTabs 4 tabs ∧
  ∀ (fs : List Fact) r H', (∀ f ∈ fs, Fct tabs f) → fs.length ≤ 176 → H r = none → H' r = some (.lst (linesV fs)) → Same H H' → Q (.ref r) H'
theorem ok_all_lines (T : TX K mg) (B : TB T base) : FnOk P w K mg base CX0 1 T.a_all_lines T.fd_all_lines p_all_lines sp_all_lines := by
  refine T.F_all_lines.ok sc_all_lines (fun vs H Q E h => ?_) (fun cdv A outer s H vs Q E hr h => ?_)
  · obtain ⟨a, qs, tabs, rfl, _⟩ := h
    rfl
  · obtain ⟨a, qs, tabs, rfl, ha, hT, D4, k⟩ := h
    refine ⟨_, (pss_cons (ps_par (i := 1) (j := 2) (by rfl) sc_all_lines.nd rfl rfl (by decide) rfl rfl (pa_cons (pe_lstS pa_nil) (pa_cons (pe_lstS pa_nil) pa_nil)) (by rfl))
  (pss_cons (ps_for PassesOwn.never rfl (pi_list (pv 0)) (pg_tup rfl (pgs_cons (pg_name (i := 3) sc_all_lines.nd rfl (Or.inr rfl)) (pgs_cons (pg_name (i := 4) sc_all_lines.nd rfl (Or.inl rfl)) pgs_nil))) (pss_cons (ps_set (i := 1) sc_all_lines.nd rfl (Or.inl rfl) (pe_op op_catS (pv 1) (pe_lc (own := [("_law_column", 5)]) (g := gName 5) (tt := tYes) rfl sc_all_lines.nd (pi_list (pv 4)) (blkOk_by (own := [("_law_column", 5)]) (N := n_all_lines) (sc := defScope s_all_lines) (by decide +kernel)) (fun _ _ _ _ _ => (pg_name (i := 5) sc_all_lines.nd rfl (Or.inl rfl))) (fun _ _ _ _ _ => pts_nil) (fun _ _ _ _ _ => (pe_op op_add_str (pe_op op_add_str (pv 3) pe_str) (pv 5))))))
  (pss_one (ps_set (i := 2) sc_all_lines.nd rfl (Or.inl rfl) (pe_op op_catS (pv 2) (pe_lstS (pa_cons (pe_op op_add_str pe_str (pv 3)) (pa_cons (pe_op op_add_str pe_str (pv 3)) pa_nil))))))))
  (pss_cons (ps_for PassesOwn.never rfl (pi_list (pv 1)) (pg_name (i := 6) sc_all_lines.nd rfl (Or.inr rfl)) (pss_one (ps_set (i := 2) sc_all_lines.nd rfl (Or.inl rfl) (pe_op op_catS (pe_op op_catS (pv 2) (pe_lstS (pa_cons (pe_op op_add_str pe_str (pv 6)) (pa_cons (pe_op op_add_str pe_str (pv 6)) pa_nil)))) (pe_lc (own := [("_law_two", 7)]) (g := gName 7) (tt := tYes) rfl sc_all_lines.nd (pi_list (pv 1)) (blkOk_by (own := [("_law_two", 7)]) (N := n_all_lines) (sc := defScope s_all_lines) (by decide +kernel)) (fun _ _ _ _ _ => (pg_name (i := 7) sc_all_lines.nd rfl (Or.inl rfl))) (fun _ _ _ _ _ => pts_nil) (fun _ _ _ _ _ => (pe_op op_add_str (pe_op op_add_str (pe_op op_add_str pe_str (pv 6)) pe_str) (pv 7))))))))
  (pss_one (ps_ret (pv 2)))))), ?_⟩
    have G := D4.good
    have nd := D4.nd
    have h4 := D4.few
    have hql := Paired.length hT
    have Nn : ∀ {t}, t ∈ tabs → t.1.length ≤ 12 := fun ht => names_len (D4.names _ ht)
    have cat : ∀ {x y : Str} {m n : Nat}, x.length ≤ m → y.length ≤ n → (x ++ y).length ≤ m + n := fun {x y m n} hx hy => by
      rw [TL.len_tl, TL.tl_append, List.length_append, ← TL.len_tl, ← TL.len_tl]; omega
    have w7 : ∀ {w : Str}, w ∈ [("single " : Str), "filled ", "unique ", "sorted ", "found ", " in ", "."] → w.length ≤ 7 := fun {w} hw => by
      have z : ∀ w ∈ [("single " : Str), "filled ", "unique ", "sorted ", "found ", " in ", "."], w.length ≤ 7 := by decide +kernel
      exact z w hw
    have sz : ∀ {x : Str}, x.length ≤ 999 → x.length ≤ sizeLine := fun h => by rw [sizeLine_eq]; omega
    have fresh : ∀ {H H' : Hp} {q : Addr}, Same H H' → H' q = none → H q = none := fun {H H' q} s n => by
      cases e : H q with
      | none => rfl
      | some o => rw [s _ _ e] at n; cases n
    refine ⟨(by show 0 ≤ sizeLine; decide), fun r1 H1 n1 s1 e1 => ⟨(by show 0 ≤ sizeLine; decide), fun r2 H2 n2 s2 e2 => ⟨_, _, rfl, ?_⟩⟩⟩
    have s02 := s1.trans s2
    refine ⟨_, rfl, a, rfl, ⟨_, SqL.of (s02 _ _ ha)⟩, ?_⟩
    refine for_list (xs := qs.map V.ref) (fun i σ H' => ∃ (v3 v4 v5 v6 v7 : Option V) (a1 a2 : Addr) (xs : List CP) (fs : List Fact), σ = [some (.ref a), some (.ref a1), some (.ref a2), v3, v4, v5, v6, v7] ∧ Same H H' ∧ H' a1 = some (.lst (xs.map spV)) ∧ H' a2 = some (.lst (linesV fs)) ∧ H a2 = none ∧ (∀ x ∈ xs, Col tabs x) ∧ (∀ f ∈ fs, Fct tabs f) ∧ xs.length ≤ 3 * i ∧ fs.length = 2 * i) ?_ (fun i σ H' _ ⟨_, _, _, _, _, _, _, _, _, _, s, _⟩ => SqL.of (s _ _ ha)) ?_ ?_
    · exact ⟨none, none, none, none, none, r1, r2, [], [], rfl, s02, s2 _ _ e1, e2, fresh s1 n2, fun x hx => (by cases hx), fun x hx => (by cases hx), Nat.le_refl _, rfl⟩
    · rintro i x σ H3 hx ⟨v3, v4, v5, v6, v7, a1, a2, xs, fs, rfl, s3, e1, e2, n2, hxs, hfs, lx, lf⟩
      have hi : i < tabs.length := by
        rcases Nat.lt_or_ge i tabs.length with h | h
        · exact h
        · rw [List.getElem?_eq_none (by rw [List.length_map]; omega)] at hx; cases hx
      rw [List.getElem?_map, List.getElem?_eq_getElem (show i < qs.length by omega)] at hx
      cases hx
      obtain ⟨cl, g1, g2⟩ := paired_get hT (List.getElem?_eq_getElem (show i < qs.length by omega)) (List.getElem?_eq_getElem hi)
      have ht : tabs[i] ∈ tabs := List.getElem_mem hi
      obtain ⟨cN1, cN2, _, cN4⟩ := D4.cols _ ht
      generalize tabs[i] = t at g1 g2 ht cN1 cN2 cN4
      have nt := Nn ht
      refine ⟨_, _, rfl, SqT.of (s3 _ _ g1), rfl, _, _, rfl, _, _, rfl, rfl, ?_⟩
      refine ⟨_, rfl, _, rfl, cl, rfl, ⟨_, SqL.of (s3 _ _ g2)⟩, fun D hD => ?_⟩
      refine lc_grow (n := t.2.length) hD (fun k acc Hc => acc = ((t.2.take k).map fun y => (t.1, y)).map spV) (fun _ _ _ _ h _ => h) (fun _ _ => rfl)
        (fun k Hc hk s => ⟨_, V.str (t.2[k]'hk), SqL.of (s _ _ (s3 _ _ g2)), by rw [List.getElem?_map, List.getElem?_eq_getElem hk]; rfl⟩) (fun Hc s => ⟨_, SqL.of (s _ _ (s3 _ _ g2)), by rw [List.length_map]; exact Nat.le_refl _⟩) (small1000 (by omega)) (fun k acc Hc F G' hF hG' hk s hacc hp x Hc' yl => ?_) (fun acc H4 s4 hacc hp => ?_)
      · obtain ⟨eH, ev⟩ := yl
        subst eH
        have ev := ev _ (SqL.of (s _ _ (s3 _ _ g2)))
        rw [List.getElem?_map, List.getElem?_eq_getElem hk] at ev
        cases ev
        have ny := names_len (cN4 _ (List.getElem_mem hk))
        refine ⟨rfl, _, rfl, _, _, rfl, rfl, cat_sz nt (w7 (w := ".") (by simp)) (by decide), _, rfl, _, _, rfl, rfl, cat_sz (cat nt (w7 (w := ".") (by simp))) ny (by decide), hF _ _ (Same.refl _) ?_⟩
        rw [hp, List.take_add_one, List.getElem?_eq_getElem hk, List.map_append, List.map_append]; rfl
      rw [List.take_length] at hp
      subst hp
      refine ⟨a1, D, _, _, rfl, rfl, s4 _ _ e1, hacc, Nat.le_of_lt (small1000 (by simp only [List.length_map]; omega)), fun a3 H5 n5 s5 e5 => ?_⟩
      have s35 := s4.trans s5
      refine ⟨_, rfl, _, rfl, _, _, rfl, rfl, cat_sz (w7 (w := "single ") (by simp)) nt (by decide), _, rfl, _, _, rfl, rfl, cat_sz (w7 (w := "filled ") (by simp)) nt (by decide), (by show 2 ≤ sizeLine; decide), fun l1 H6 n6 s6 e6 => ?_⟩
      have s36 := s35.trans s6
      rw [line_single, line_filled] at e6
      refine ⟨a2, l1, _, _, rfl, rfl, s36 _ _ e2, e6, Nat.le_of_lt (small1000 (by unfold linesV; simp only [List.length_map, List.length_cons, List.length_nil]; omega)), fun a4 H7 n7 s7 e7 => ?_⟩
      have s37 := s36.trans s7
      refine ⟨_, _, _, _, _, a3, a4, xs ++ t.2.map (fun y => (t.1, y)), fs ++ [(("single" : Str), (t.1, none), none), (("filled" : Str), (t.1, none), none)], rfl, s3.trans s37, ?_, ?_, fresh (s3.trans s36) n7, fun x hx => ?_, fun f hf => ?_, ?_, ?_⟩
      · rw [List.map_append]; exact s7 _ _ (s6 _ _ e5)
      · unfold linesV at e7 ⊢
        rw [List.map_append]; exact e7
      · rcases List.mem_append.mp hx with h | h
        · exact hxs x h
        · obtain ⟨y, hy, rfl⟩ := List.mem_map.mp h
          exact ⟨t, ht, rfl, hy⟩
      · rcases List.mem_append.mp hf with h | h
        · exact hfs f h
        · rcases List.mem_cons.mp h with rfl | h
          · exact .table ht (.inl rfl)
          · rw [List.mem_singleton.mp h]; exact .table ht (.inr rfl)
      · rw [List.length_append, List.length_map]; omega
      · rw [List.length_append, lf]; show _ + 2 = _; omega
    · rintro σ H3 ⟨v3, v4, v5, v6, v7, a1, a2, xs, fs, rfl, s3, e1, e2, n2, hxs, hfs, lx, lf⟩
      rw [List.length_map] at lx lf
      refine ⟨_, rfl, a1, rfl, ⟨_, SqL.of e1⟩, ?_⟩
      refine for_list (xs := xs.map spV) (fun i σ H' => ∃ (v6 v7 : Option V) (a2 : Addr) (fs : List Fact), σ = [some (.ref a), some (.ref a1), some (.ref a2), v3, v4, v5, v6, v7] ∧ Same H3 H' ∧ H' a2 = some (.lst (linesV fs)) ∧ H a2 = none ∧ (∀ f ∈ fs, Fct tabs f) ∧ fs.length ≤ 8 + 14 * i) ⟨v6, v7, a2, fs, rfl, Same.refl _, e2, n2, hfs, by omega⟩ (fun i σ H' _ ⟨_, _, _, _, _, s, _⟩ => SqL.of (s _ _ e1)) ?_ ?_
      · rintro i x σ H4 hx ⟨v6, v7, a2, fs, rfl, s4, e2, n2, hfs, lf⟩
        have hi : i < xs.length := by
          rcases Nat.lt_or_ge i xs.length with h | h
          · exact h
          · rw [List.getElem?_eq_none (by rw [List.length_map]; omega)] at hx; cases hx
        rw [List.getElem?_map, List.getElem?_eq_getElem hi] at hx
        cases hx
        have hxm := hxs _ (List.getElem_mem hi)
        have nx := sp_len (hxm.nm G)
        generalize xs[i] = x at hxm nx
        refine ⟨_, rfl, _, rfl, _, _, rfl, rfl, cat_sz (w7 (w := "unique ") (by simp)) nx (by decide), _, rfl, _, _, rfl, rfl, cat_sz (w7 (w := "sorted ") (by simp)) nx (by decide), (by show 2 ≤ sizeLine; decide), fun l1 H6 n6 s6 e6 => ?_⟩
        rw [line_unique, line_sorted] at e6
        refine ⟨a2, l1, _, _, rfl, rfl, s6 _ _ e2, e6, Nat.le_of_lt (small1000 (by unfold linesV; simp only [List.length_map, List.length_cons, List.length_nil]; omega)), fun a4 H7 n7 s7 e7 => ?_⟩
        have s37 := (s4.trans s6).trans s7
        refine ⟨_, rfl, a1, rfl, ⟨_, SqL.of (s37 _ _ e1)⟩, fun D hD => ?_⟩
        refine lc_grow (n := xs.length) hD (fun k acc Hc => acc = linesV ((xs.take k).map fun y => (("found" : Str), (x.1, some x.2), some (y.1, some y.2)))) (fun _ _ _ _ h _ => h) (fun _ _ => rfl)
          (fun k Hc hk s => ⟨_, spV (xs[k]'hk), SqL.of (s _ _ (s37 _ _ e1)), by rw [List.getElem?_map, List.getElem?_eq_getElem hk]; rfl⟩) (fun Hc s => ⟨_, SqL.of (s _ _ (s37 _ _ e1)), by rw [List.length_map]; exact Nat.le_refl _⟩) (small1000 (by omega)) (fun k acc Hc F G' hF hG' hk s hacc hp v Hc' yl => ?_) (fun acc H8 s8 hacc hp => ?_)
        · obtain ⟨eH, ev⟩ := yl
          subst eH
          have ev := ev _ (SqL.of (s _ _ (s37 _ _ e1)))
          rw [List.getElem?_map, List.getElem?_eq_getElem hk] at ev
          cases ev
          have ny := sp_len ((hxs _ (List.getElem_mem hk)).nm G)
          have z1 := cat (w7 (w := "found ") (by simp)) nx
          have z2 := cat z1 (w7 (w := " in ") (by simp))
          refine ⟨rfl, _, rfl, _, _, rfl, rfl, cat_sz (w7 (w := "found ") (by simp)) nx (by decide), _, _, rfl, rfl, cat_sz z1 (w7 (w := " in ") (by simp)) (by decide), _, rfl, _, _, rfl, rfl, cat_sz z2 ny (by decide), hF _ _ (Same.refl _) ?_⟩
          rw [hp, List.take_add_one, List.getElem?_eq_getElem hk, List.map_append]
          unfold linesV
          rw [List.map_append]
          show _ = _ ++ [V.str _]
          rw [← line_found]
        rw [List.take_length] at hp
        subst hp
        refine ⟨a4, D, _, _, rfl, rfl, s8 _ _ e7, hacc, Nat.le_of_lt (small1000 (by unfold linesV; simp only [List.length_map, List.length_append, List.length_cons, List.length_nil]; omega)), fun a5 H9 n9 s9 e9 => ?_⟩
        refine ⟨_, _, a5, fs ++ [(("unique" : Str), (x.1, some x.2), none), (("sorted" : Str), (x.1, some x.2), none)] ++ xs.map (fun y => (("found" : Str), (x.1, some x.2), some (y.1, some y.2))), rfl, (s37.trans s8).trans s9, ?_, fresh ((s3.trans s37).trans s8) n9, fun f hf => ?_, ?_⟩
        · unfold linesV at e9 ⊢
          rw [List.map_append, List.map_append]; exact e9
        · rcases List.mem_append.mp hf with h | h
          · rcases List.mem_append.mp h with h | h
            · exact hfs f h
            · rcases List.mem_cons.mp h with rfl | h
              · exact .column hxm (.inl rfl)
              · rw [List.mem_singleton.mp h]; exact .column hxm (.inr rfl)
          · obtain ⟨y, hy, rfl⟩ := List.mem_map.mp h
            exact .found hxm (hxs y hy)
        · rw [List.length_append, List.length_append, List.length_map]
          show fs.length + 2 + _ ≤ _
          omega
      · rintro σ H4 ⟨v6, v7, a2, fs, rfl, s4, e2, n2, hfs, lf⟩
        rw [List.length_map] at lf
        exact ⟨_, rfl, k fs a2 H4 hfs (by omega) n2 e2 (s3.trans s4)⟩
end
end L2.Pf
set_option maxHeartbeats 2000000
namespace L2.Pf
open PySem PySem.Spec PyProof.Rows L2.Ev L2.Tpd L2.Seti L2.Gq L2.Enf L2.Sett L2.Itr L2.Dls L2.Own L2.Dsp L2.Dcs L2.Vls L2.Ent
theorem onces_nodup (ls : List Str) : (onces ls).Nodup := by
  have key : ∀ (ls acc : List Str), acc.Nodup → (ls.foldl once acc).Nodup := by
    intro ls
    induction ls with
    | nil => intro acc h; exact h
    | cons a r ih =>
      intro acc h
      rw [List.foldl_cons]
      refine ih _ ?_
      unfold once
      split
      · exact h
      · rename_i c
        refine List.nodup_append.mpr ⟨h, by simp, fun x hx y hy e => ?_⟩
        rw [List.mem_singleton.mp hy] at e
        exact c (e ▸ hx)
  exact key ls [] List.nodup_nil
theorem onces_id {ls : List Str} (h : ls.Nodup) : onces ls = ls := by
  have key : ∀ (ls acc : List Str), (acc ++ ls).Nodup → ls.foldl once acc = acc ++ ls := by
    intro ls
    induction ls with
    | nil => intro acc h; rw [List.append_nil]; rfl
    | cons a r ih =>
      intro acc h
      have e : acc ++ a :: r = (acc ++ [a]) ++ r := by rw [List.append_assoc]; rfl
      have c : a ∉ acc := fun z => (List.nodup_append.mp h).2.2 a z a List.mem_cons_self rfl
      rw [List.foldl_cons]
      unfold once
      rw [if_neg c, e]
      exact ih _ (by rw [← e]; exact h)
  have z := key ls [] h
  exact z
/-- a fact whose link goes up in an order of the tables -/
def UpF (o : List Str) (f : Fact) : Prop := ∀ p ∈ linkOf f, rk o p.1 < rk o p.2
def LineOk (tabs order : Tabs) (x : Str) : Prop := ∃ f, Fct tabs f ∧ UpF (order.map (·.1)) f ∧ x = lineT f
theorem lines_of {tabs order : Tabs} : ∀ {ls : List Str}, (∀ x ∈ ls, LineOk tabs order x) → ∃ fs : List Fact, ls = fs.map lineT ∧ ∀ f ∈ fs, Fct tabs f ∧ UpF (order.map (·.1)) f
  | [], _ => ⟨[], rfl, fun f h => by cases h⟩
  | x :: r, h => by
    obtain ⟨f, h1, h2, rfl⟩ := h x List.mem_cons_self
    obtain ⟨fs, rfl, h3⟩ := lines_of fun y hy => h y (List.mem_cons_of_mem _ hy)
    refine ⟨f :: fs, rfl, fun g hg => ?_⟩
    rcases List.mem_cons.mp hg with rfl | hg
    · exact ⟨h1, h2⟩
    · exact h3 g hg
theorem upf_none {o : List Str} {w : Str} {p : Place} (h : w ≠ ("found" : Str)) : UpF o (w, p, none) := fun q hq => by
  rw [no_link h] at hq; cases hq
theorem up_line {tabs : Tabs} (G : ∀ t ∈ tabs, GoodTab t) (nd : (tabs.map (·.1)).Nodup) {o : List Str} {f : Fact} (h : Fct tabs f) (u : UpF o f) : Up tabs (rk o) (lineT f) := ⟨f, line_read G nd h, u⟩
def SpotAt (H : Hp) (q : Addr) (s : Nat × CP) : Prop := H q = some (.tup [.int (s.1 : Int), .str (sp s.2)])
def SpotOk (order : Tabs) (s : Nat × CP) : Prop := ∃ t, order[s.1]? = some t ∧ s.2.1 = t.1 ∧ s.2.2 ∈ t.2
theorem SpotOk.col {tabs order : Tabs} {s : Nat × CP} (h : SpotOk order s) (hp : order.Perm tabs) : Col tabs s.2 := by
  obtain ⟨t, h1, h2, h3⟩ := h
  exact ⟨t, hp.mem_iff.mp (List.mem_of_getElem? h1), h2, h3⟩
theorem spots_up {tabs order : Tabs} {s u : Nat × CP} (nd : (tabs.map (·.1)).Nodup) (hp : order.Perm tabs) (hs : SpotOk order s) (hu : SpotOk order u) (h : s.1 < u.1) : UpF (order.map (·.1)) (("found" : Str), (s.2.1, some s.2.2), some (u.2.1, some u.2.2)) := by
  have no : (order.map (·.1)).Nodup := (hp.map _).nodup_iff.mpr nd
  obtain ⟨t, h1, h2, h3⟩ := hs
  obtain ⟨v, g1, g2, g3⟩ := hu
  intro p hq
  rw [link_of] at hq
  rw [List.mem_singleton.mp hq]
  show rk _ s.2.1 < rk _ u.2.1
  rw [h2, g2, rk_get no (by rw [List.getElem?_map, h1]; rfl), rk_get no (by rw [List.getElem?_map, g1]; rfl)]
  exact h
theorem paired_mem {α β : Type} {F : α → β → Prop} {a : List α} {b : List β} {x : α} (h : Paired F a b) : x ∈ a → ∃ y ∈ b, F x y := by
  induction h with
  | nil => intro h; cases h
  | cons g t ih =>
    intro h
    rcases List.mem_cons.mp h with rfl | h
    · exact ⟨_, List.mem_cons_self, g⟩
    · obtain ⟨y, hy, f⟩ := ih h
      exact ⟨y, List.mem_cons_of_mem _ hy, f⟩
section
variable {P : Program} {w : World} {K : PySem.W.Frag} {mg : Str → Option Value} {base : Heap}
def sp_linked_facts : Sp := fun vs H Q _ => ∃ (p c : Addr) (ns : List Int) (n : Nat) (a : Addr) (qs : List Addr) (tabs : Tabs), vs = [.ref p, .ref a] ∧ Pen H p c ns n ∧ n ≤ 2 ^ 47 ∧ H a = some (.lst (qs.map V.ref)) ∧ TabsAt H qs tabs ∧ DrawnTabs 4 tabs ∧
  ∀ (order : Tabs) (fs : List Fact) r H', order.Perm tabs → (∀ f ∈ fs, Fct tabs f ∧ UpF (order.map (·.1)) f) → (fs.map lineT).Nodup → fs.length ≤ 6 → H r = none → H' r = some (.lst (linesV fs)) → Pen H' p c ns (n + 100) → But p H H' → Q (.ref r) H'
theorem ok_linked_facts (T : TX K mg) (B : TB T base) : FnOk P w K mg base CX0 4 T.a_linked_facts T.fd_linked_facts p_linked_facts sp_linked_facts := by
  refine T.F_linked_facts.ok sc_linked_facts (fun vs H Q E h => ?_) (fun cdv A outer s H vs Q E hr h => ?_)
  · obtain ⟨p, c, ns, n, a, qs, tabs, rfl, _⟩ := h
    rfl
  · obtain ⟨p, c, ns, n, a, qs, tabs, rfl, hp, hn, ha, hT, D4, k⟩ := h
    refine ⟨_, (pss_cons (ps_set (i := 2) sc_linked_facts.nd rfl (Or.inl rfl) (pe_call (ok_shuffled T B) (hr.mono (by decide)) rfl T.g_shuffled T.F_shuffled.kp T.b_shuffled .nil pass0 (pa_cons (pv 0) (pa_cons (pv 1) pa_nil))))
  (pss_cons (ps_par (i := 3) (j := 4) (by rfl) sc_linked_facts.nd rfl rfl (by decide) rfl rfl (pa_cons (pe_lstS pa_nil) (pa_cons (pe_lstS pa_nil) pa_nil)) (by rfl))
  (pss_cons (ps_for PassesOwn.never rfl (pi_enum (by rfl) T.z_enumerate (pa_cons (pv 2) pa_nil)) (pg_tup rfl (pgs_cons (pg_name (i := 5) sc_linked_facts.nd rfl (Or.inr rfl)) (pgs_cons (pg_name (i := 6) sc_linked_facts.nd rfl (Or.inr rfl)) pgs_nil))) (pss_one (ps_set (i := 3) sc_linked_facts.nd rfl (Or.inl rfl) (pe_op op_catS (pv 3) (pe_lc (own := [("_law_column", 7)]) (g := gName 7) (tt := tYes) rfl sc_linked_facts.nd (pi_list (pe_slice (sl_listS (K := K)) (pe_ix ix_tup (pv 6) pe_int (fun _ _ => rfl)) po_none (po_some pe_int))) (blkOk_by (own := [("_law_column", 7)]) (N := n_linked_facts) (sc := defScope s_linked_facts) (by decide +kernel)) (fun _ _ _ _ _ => (pg_name (i := 7) sc_linked_facts.nd rfl (Or.inl rfl))) (fun _ _ _ _ _ => pts_nil) (fun _ _ _ _ _ => (pe_tupS (pa_cons (pv 5) (pa_cons (pe_op op_add_str (pe_op op_add_str (pe_ix (ix_tupK (K := K)) (pv 6) pe_int (fun _ _ => rfl)) pe_str) (pv 7)) pa_nil)))))))))
  (pss_cons (ps_for PassesOwn.never rfl (pi_range1 (by rfl) T.z_range (pa_cons (pe_call (ok_draw T B) (hr.mono (by decide)) rfl T.g_draw T.F_draw.kp T.b_draw .nil pass0 (pa_cons (pv 0) (pa_cons pe_int pa_nil))) pa_nil)) (pg_name (i := 8) sc_linked_facts.nd rfl (Or.inl rfl)) (pss_cons (ps_asg (pe_call (ok_pick T B) (hr.mono (by decide)) rfl T.g_pick T.F_pick.kp T.b_pick .nil pass0 (pa_cons (pv 0) (pa_cons (pv 3) pa_nil))) (pg_tup rfl (pgs_cons (pg_name (i := 5) sc_linked_facts.nd rfl (Or.inr rfl)) (pgs_cons (pg_name (i := 9) sc_linked_facts.nd rfl (Or.inl rfl)) pgs_nil))))
  (pss_cons (ps_setLc (i := 10) (own := [("_law_k", 11), ("_law_goal", 12)]) (g := gTup K 2 (gCons (gName 11) (gCons (gName 12) gNil))) (tt := _) rfl sc_linked_facts.nd rfl rfl (sw_true rfl rfl rfl (by decide +kernel)) (pi_list (pv 3)) (blkOk_by (own := [("_law_k", 11), ("_law_goal", 12)]) (N := n_linked_facts) (sc := defScope s_linked_facts) (by decide +kernel)) (fun _ _ _ _ _ => (pg_tup rfl (pgs_cons (pg_name (i := 11) sc_linked_facts.nd rfl (Or.inl rfl)) (pgs_cons (pg_name (i := 12) sc_linked_facts.nd rfl (Or.inl rfl)) pgs_nil)))) (fun _ _ _ _ _ => pts_one (pt_cmpR op_gt (pv 11) (pv 5) (nomark _))) (fun _ _ _ _ _ => (pv 12)))
  (pss_one (ps_if (pt_cmpR (op_neNil hr.units0) (pv 10) (pe_lstS pa_nil) (nomark _)) (pss_one (ps_expr (pe_bm PySem.F.plainAttrs_list PySem.F.slot_list_append PySem.F.type_list_append mt_appendS (pv 4) (pa_cons (pe_op op_add_str (pe_op op_add_str (pe_op op_add_str pe_str (pv 9)) pe_str) (pe_call (ok_pick T B) (hr.mono (by decide)) rfl T.g_pick T.F_pick.kp T.b_pick .nil pass0 (pa_cons (pv 0) (pa_cons (pv 10) pa_nil)))) pa_nil)))) pss_nil)))))
  (pss_cons (ps_for PassesOwn.never rfl (pi_range1 (by rfl) T.z_range (pa_cons (pe_call (ok_draw T B) (hr.mono (by decide)) rfl T.g_draw T.F_draw.kp T.b_draw .nil pass0 (pa_cons (pv 0) (pa_cons (pe_op op_sub pe_int (pe_callB call_len_seq (by rfl) T.z_len (by decide +kernel) (pa_cons (pv 4) pa_nil))) pa_nil))) pa_nil)) (pg_name (i := 8) sc_linked_facts.nd rfl (Or.inl rfl)) (pss_cons (ps_asg (pe_tupS (pa_cons (pe_call (ok_draw T B) (hr.mono (by decide)) rfl T.g_draw T.F_draw.kp T.b_draw .nil pass0 (pa_cons (pv 0) (pa_cons pe_int pa_nil))) (pa_cons (pe_call (ok_pick T B) (hr.mono (by decide)) rfl T.g_pick T.F_pick.kp T.b_pick .nil pass0 (pa_cons (pv 0) (pa_cons (pv 2) pa_nil))) pa_nil))) (pg_tup rfl (pgs_cons (pg_name (i := 13) sc_linked_facts.nd rfl (Or.inl rfl)) (pgs_cons (pg_name (i := 6) sc_linked_facts.nd rfl (Or.inr rfl)) pgs_nil))))
  (pss_cons (ps_set (i := 14) sc_linked_facts.nd rfl (Or.inl rfl) (pe_lstS (pa_cons (pe_op op_add_str pe_str (pe_ix ix_tup (pv 6) pe_int (fun _ _ => rfl))) (pa_cons (pe_op op_add_str pe_str (pe_ix ix_tup (pv 6) pe_int (fun _ _ => rfl))) (pa_cons (pe_op op_add_str pe_str (pe_ix ix_tup (pv 6) pe_int (fun _ _ => rfl))) pa_nil)))))
  (pss_one (ps_expr (pe_bm PySem.F.plainAttrs_list PySem.F.slot_list_append PySem.F.type_list_append mt_appendS (pv 4) (pa_cons (pe_ix ix_list (pe_op op_catS (pv 14) (pe_lstS (pa_cons (pe_op op_add_str pe_str (pe_call (ok_spot T B) (hr.mono (by decide)) rfl T.g_spot T.F_spot.kp T.b_spot .nil pass0 (pa_cons (pv 0) (pa_cons (pv 6) pa_nil)))) (pa_cons (pe_op op_add_str pe_str (pe_call (ok_spot T B) (hr.mono (by decide)) rfl T.g_spot T.F_spot.kp T.b_spot .nil pass0 (pa_cons (pv 0) (pa_cons (pv 6) pa_nil)))) pa_nil)))) (pv 13) (fun _ _ => rfl)) pa_nil)))))))
  (pss_one (ps_ret (pe_call (ok_shuffled T B) (hr.mono (by decide)) rfl T.g_shuffled T.F_shuffled.kp T.b_shuffled .nil pass0 (pa_cons (pv 0) (pa_cons (pe_call (ok_each_once T B) (hr.mono (by decide)) rfl T.g_each_once T.F_each_once.kp T.b_each_once .nil pass0 (pa_cons (pv 4) pa_nil)) pa_nil)))))))))), ?_⟩
    have hql := Paired.length hT
    have h4 := D4.few
    refine ⟨_, rfl, _, rfl, p, c, ns, n, a, _, rfl, hp, .inl (SqL.of ha), by rw [List.length_map]; omega, by omega, fun ys r1 H1 hys n1 e1 hp1 b1 => ?_⟩
    obtain ⟨qs2, order, rfl, hperm, hT2⟩ := perm_paired hys qs tabs rfl hT
    have hlo : order.length = tabs.length := hperm.length_eq
    have hp1 : Pen H1 p c ns (n + 4) := hp1.mono (by rw [List.length_map]; omega)
    have nlp : ∀ {H' : Hp} {N : Nat} {q : Addr} {o : HO}, Pen H' p c ns N → H' q = some o → (∀ t, o ≠ .dK t) → q ≠ p := fun hp e n z => by
      obtain ⟨o2, e2⟩ := hp.pre
      rw [z, e2] at e
      cases e
      exact n _ rfl
    have hT1 : Paired (TabAt H1) qs2 order := Paired.mapP hT2 fun q t ⟨c2, z1, z2⟩ => ⟨c2, b1 _ _ (nlp hp z1 (fun _ z => by cases z)) z1, b1 _ _ (nlp hp z2 (fun _ z => by cases z)) z2⟩
    have hG2 : ∀ t ∈ order, GoodTab t := fun t ht => D4.good t (hperm.mem_iff.mp ht)
    refine ⟨(by show 0 ≤ sizeLine; decide), fun r2 H2 n2 s2 e2 => ⟨(by show 0 ≤ sizeLine; decide), fun r3 H3 n3 s3 e3 => ⟨_, _, rfl, ?_⟩⟩⟩
    have s13 := s2.trans s3
    have hq2 := Paired.length hT1
    refine ⟨_, rfl, r1, _, rfl, SqL.of (s13 _ _ e1), ?_⟩
    refine for_it walk_enum (fun i σ H' => ∃ (v5 v6 v7 v8 v9 v10 v11 v12 v13 v14 : Option V) (a3 : Addr) (as : List Addr) (ps : List (Nat × CP)), σ = [some (.ref p), some (.ref a), some (.ref r1), some (.ref a3), some (.ref r3), v5, v6, v7, v8, v9, v10, v11, v12, v13, v14] ∧ Same H3 H' ∧ H' a3 = some (.lst (as.map V.ref)) ∧ Paired (SpotAt H') as ps ∧ (∀ s ∈ ps, SpotOk order s) ∧ i ≤ ps.length ∧ ps.length ≤ 2 * i ∧ a3 ≠ r3)
      ⟨none, none, none, none, none, none, none, none, none, none, r2, [], [], rfl, Same.refl _, s3 _ _ e2, .nil, fun s hs => (by cases hs), Nat.le_refl _, Nat.le_refl _, fun z => by rw [z] at e2; rw [e2] at n3; cases n3⟩ (fun i σ H' _ ⟨_, _, _, _, _, _, _, _, _, _, _, _, _, _, s, _⟩ => SqL.of (s _ _ (s13 _ _ e1))) ?_ ?_
    · rintro i x σ H4 H5 hi ⟨v5, v6, v7, v8, v9, v10, v11, v12, v13, v14, a3, as, ps, rfl, s4, e4, p4, k4, l1, l2, na3⟩ ⟨T0, x0, y0, rfl, hT0, rfl, ex0, hy0⟩
      cases ex0
      rw [List.length_map] at hi
      have hy0 : (qs2.map V.ref)[i]? = some y0 := hy0
      rw [List.getElem?_map, List.getElem?_eq_getElem hi] at hy0
      cases hy0
      obtain ⟨cl, g1, g2⟩ := paired_get hT1 (List.getElem?_eq_getElem hi) (List.getElem?_eq_getElem (show i < order.length by omega))
      have hot : order[i]? = some (order[i]'(by omega)) := List.getElem?_eq_getElem (by omega)
      generalize order[i]'(by omega) = t at g1 g2 hot
      refine ⟨T0, _, rfl, SqT.of upd_same, rfl, _, _, rfl, _, _, rfl, rfl, ?_⟩
      have sT : Same H4 (upd H4 T0 (.tup [.int ((i : Nat) : Int), V.ref qs2[i]])) := Same.new (Same.refl H4) hT0
      generalize upd H4 T0 (.tup [.int ((i : Nat) : Int), V.ref qs2[i]]) = H5 at sT
      have s35 := s4.trans sT
      refine ⟨_, rfl, _, rfl, qs2[i], _, 1, _, rfl, rfl, SqT.of (s35 _ _ (s13 _ _ g1)), atI_nat (k := 1) rfl, ?_⟩
      refine ⟨2, rfl, cl, _, rfl, SqL.of (s35 _ _ (s13 _ _ g2)), fun L HL nL sL eL => ?_⟩
      have ec : cutV (t.2.map V.str) none (some 2) = (t.2.take 2).map V.str := (cut_to _ (z := 2) (k := 2) rfl (by decide)).trans (by rw [List.map_take])
      rw [ec] at eL
      have s3L := s35.trans sL
      have tg := hG2 t (List.mem_of_getElem? hot)
      have gt : HL qs2[i] = some (.tup [.str t.1, .ref cl]) := s3L _ _ (s13 _ _ g1)
      have cs1 : ∀ y ∈ t.2.take 2, y ∈ t.2 := fun y hy => List.mem_of_mem_take hy
      have cs2 : 1 ≤ (t.2.take 2).length := by
        have z : 0 < t.2.length := List.length_pos_iff.mpr tg.ne
        rw [List.length_take]; omega
      have cs3 : (t.2.take 2).length ≤ 2 := by rw [List.length_take]; omega
      generalize t.2.take 2 = cs at eL cs1 cs2 cs3
      refine ⟨L, rfl, ⟨_, SqL.of eL⟩, fun D hD => ?_⟩
      have nt := names_len tg.name
      have dot : (".": Str).length ≤ 1 := by decide +kernel
      refine lc_grow (n := cs.length) hD (fun m acc Hc => ∃ ds : List Addr, acc = ds.map V.ref ∧ Paired (SpotAt Hc) ds ((cs.take m).map fun y => (i, (t.1, y)))) ?_ ?_ ?_ ?_ (small1000 (by omega)) ?_ ?_
      · rintro m acc Hc o ⟨ds, e, h⟩ ⟨u, eu⟩
        refine ⟨ds, e, Paired.mapP h fun q s z => ?_⟩
        have z : Hc q = some _ := z
        show (upd Hc D o) q = _
        rw [upd_ne (fun z2 => by rw [z2, eu] at z; cases z)]; exact z
      · exact fun Hc s => ⟨[], rfl, .nil⟩
      · exact fun m Hc hm s => ⟨_, V.str (cs[m]'hm), SqL.of (s _ _ eL), by rw [List.getElem?_map, List.getElem?_eq_getElem hm]; rfl⟩
      · exact fun Hc s => ⟨_, SqL.of (s _ _ eL), by rw [List.length_map]; exact Nat.le_refl _⟩
      · rintro m acc Hc F G' hF hG' hm s hacc ⟨ds, rfl, pd⟩ x Hc' ⟨eH, ev⟩
        subst eH
        have ev := ev _ (SqL.of (s _ _ eL))
        rw [List.getElem?_map, List.getElem?_eq_getElem hm] at ev
        cases ev
        have ny := names_len (tg.cols _ (cs1 _ (List.getElem_mem hm)))
        have cat : ∀ {x y : Str} {m n : Nat}, x.length ≤ m → y.length ≤ n → (x ++ y).length ≤ m + n := fun {x y m n} hx hy => by
          rw [TL.len_tl, TL.tl_append, List.length_append, ← TL.len_tl, ← TL.len_tl]; omega
        refine ⟨rfl, _, rfl, _, rfl, qs2[i], _, 0, _, rfl, rfl, SqT.of (s _ _ gt), atI_nat (k := 0) rfl, _, _, rfl, rfl, cat_sz nt dot (by decide), _, rfl, _, _, rfl, rfl, cat_sz (cat nt dot) ny (by decide), (by show 2 ≤ sizeLine; decide), fun q H6 n6 s6 e6 => hF _ _ s6 ⟨ds ++ [q], by rw [List.map_append]; rfl, ?_⟩⟩
        rw [List.take_add_one, List.getElem?_eq_getElem hm, List.map_append]
        exact paired_snoc (Paired.mapP pd fun q s z => s6 _ _ z) e6
      rintro acc H6 s6 hacc ⟨ds, rfl, pd⟩
      rw [List.take_length] at pd
      have pdl := Paired.length pd
      have psl := Paired.length p4
      rw [List.length_map] at pdl
      have s46 := (sT.trans sL).trans s6
      refine ⟨a3, D, _, _, rfl, rfl, s46 _ _ e4, hacc, Nat.le_of_lt (small1000 (by simp only [List.length_map]; omega)), fun a4 H7 n7 s7 e7 => ?_⟩
      have s47 := s46.trans s7
      refine ⟨_, _, _, _, _, _, _, _, _, _, a4, as ++ ds, ps ++ cs.map (fun y => (i, (t.1, y))), rfl, s4.trans s47, by rw [List.map_append]; exact e7, paired_app (Paired.mapP p4 fun q s z => s47 _ _ z) (Paired.mapP pd fun q s z => s7 _ _ z), fun s hs => ?_, ?_, ?_, fun z => ?_⟩
      · rcases List.mem_append.mp hs with h | h
        · exact k4 s h
        · obtain ⟨y, hy, rfl⟩ := List.mem_map.mp h
          exact ⟨t, hot, rfl, cs1 y hy⟩
      · rw [List.length_append, List.length_map]; omega
      · rw [List.length_append, List.length_map]; omega
      · have z2 := (s4.trans s46) _ _ e3
        rw [← z, n7] at z2; cases z2
    · rintro σ H4 ⟨v5, v6, v7, v8, v9, v10, v11, v12, v13, v14, a3, as, ps, rfl, s4, e4, p4, k4, l1, l2, na3⟩
      rw [List.length_map] at l1 l2
      have fresh : ∀ {H H' : Hp} {q : Addr}, Same H H' → H' q = none → H q = none := fun {H H' q} s n => by
        cases e : H q with
        | none => rfl
        | some o => rw [s _ _ e] at n; cases n
      have e34 := s4 _ _ e3
      have s14 := s13.trans s4
      have hp4 := hp1.same s14
      have b14 : But p H H4 := b1.trans (But.of s14)
      have n31 : H1 r3 = none := fresh s2 n3
      have n3H : H r3 = none := by
        obtain ⟨o, e⟩ := hp1.pre
        exact But.free b1 e n31
      have r3p : r3 ≠ p := nlp hp4 e34 (fun _ z => by cases z)
      have r3c : r3 ≠ c := fun z => by
        have e := hp1.cells
        rw [← z, n31] at e; cases e
      have pos : 1 ≤ tabs.length := List.length_pos_iff.mpr D4.ne
      have hal := Paired.length p4
      have spl : ∀ s ∈ ps, (sp s.2).length ≤ 25 := fun s hs => sp_len (((k4 s hs).col hperm).nm D4.good)
      refine ⟨_, rfl, p, c, ns, _, 4, rfl, hp4, by omega, by decide, ok_small (by decide), fun d0 H5 d1 d2 hp5 b5 => ?_⟩
      refine ⟨d0, rfl, by omega, by omega, ?_⟩
      refine for_range (lo := 0) (n := d0.toNat) (fun j σ H' => ∃ (v5 v6 v7 v8 v9 v10 v11 v12 v13 v14 : Option V) (ls : List Str), σ = [some (.ref p), some (.ref a), some (.ref r1), some (.ref a3), some (.ref r3), v5, v6, v7, v8, v9, v10, v11, v12, v13, v14] ∧
          (∀ q o, q ≠ p → q ≠ r3 → H4 q = some o → H' q = some o) ∧ Pen H' p c ns (n + 4 + 1 + 2 * j) ∧ H' r3 = some (.lst (ls.map V.str)) ∧ (∀ x ∈ ls, LineOk tabs order x) ∧ ls.length ≤ j)
        ⟨v5, v6, v7, v8, v9, v10, v11, v12, v13, v14, [], rfl, fun q o n1 _ e => b5 _ _ n1 e, hp5, b5 _ _ r3p e34, fun x hx => (by cases hx), Nat.le_refl _⟩ ?_ ?_
      · rintro j σ H6 hj ⟨v5, v6, v7, v8, v9, v10, v11, v12, v13, v14, ls, rfl, st, hp6, e6, hls, lj⟩
        have ne3 : ∀ {q : Addr} {xs : List V}, H4 q = some (.tup xs) → q ≠ r3 := fun e z => by rw [z, e34] at e; cases e
        have stT : ∀ {q : Addr} {xs : List V}, H4 q = some (.tup xs) → H6 q = some (.tup xs) := fun e => st _ _ (nlp hp4 e (fun _ z => by cases z)) (ne3 e) e
        have ea3 : H6 a3 = some (.lst (as.map V.ref)) := st _ _ (nlp hp4 e4 (fun _ z => by cases z)) na3 e4
        refine ⟨_, rfl, _, rfl, p, c, ns, _, a3, as.map V.ref, rfl, hp6, ea3, by rw [List.length_map]; omega, by rw [List.length_map]; omega, by omega, fun v H7 hv hp7 b7 => ?_⟩
        obtain ⟨q, hq, rfl⟩ := List.mem_map.mp hv
        obtain ⟨s, hs, fq⟩ := paired_mem p4 hq
        have fq7 : H7 q = some (.tup [.int (s.1 : Int), .str (sp s.2)]) := b7 _ _ (nlp hp4 fq (fun _ z => by cases z)) (stT fq)
        refine ⟨q, _, rfl, SqT.of fq7, rfl, _, _, rfl, _, _, rfl, rfl, ?_⟩
        have ea37 := b7 _ _ (nlp hp4 e4 (fun _ z => by cases z)) ea3
        have e67 := b7 _ _ r3p e6
        refine ⟨_, rfl, a3, rfl, ⟨_, SqL.of ea37⟩, fun D hD => ?_⟩
        refine lc_grow (n := ps.length) hD (fun m acc Hc => ∃ us : List (Nat × CP), acc = us.map (fun u => V.str (sp u.2)) ∧ (∀ u ∈ us, u ∈ ps ∧ s.1 < u.1) ∧ us.length ≤ m) (fun _ _ _ _ h _ => h) (fun _ _ => ⟨[], rfl, fun u hu => (by cases hu), Nat.le_refl _⟩)
          (fun m Hc hm s => ⟨_, V.ref (as[m]'(by omega)), SqL.of (s _ _ ea37), by rw [List.getElem?_map, List.getElem?_eq_getElem (by omega)]; rfl⟩) (fun Hc s => ⟨_, SqL.of (s _ _ ea37), by rw [List.length_map]; omega⟩) (small1000 (by omega)) (fun m acc Hc F G' hF hG' hm sc hacc hp v Hc' yl => ?_) (fun acc H8 s8 hacc hp8 => ?_)
        · obtain ⟨eH, ev⟩ := yl
          subst eH
          have hma : m < as.length := by omega
          have ev := ev _ (SqL.of (sc _ _ ea37))
          rw [List.getElem?_map, List.getElem?_eq_getElem hma] at ev
          cases ev
          obtain ⟨us, rfl, hu, hl⟩ := hp
          have fm : SpotAt H4 as[m] ps[m] := paired_get p4 (List.getElem?_eq_getElem hma) (List.getElem?_eq_getElem hm)
          have fm : H4 as[m] = some (.tup [.int ((ps[m]).1 : Int), .str (sp (ps[m]).2)]) := fm
          have fm7 := sc _ _ (b7 _ _ (nlp hp4 fm (fun _ z => by cases z)) (stT fm))
          refine ⟨_, _, rfl, SqT.of fm7, rfl, _, _, rfl, _, _, rfl, rfl, rfl, ?_⟩
          refine ⟨_, rfl, _, rfl, _, _, rfl, rfl, _, rfl, ?_⟩
          by_cases c : s.1 < (ps[m]).1
          · rw [decide_eq_true (by omega)]
            refine iteT ⟨_, rfl, hF _ _ (Same.refl _) ⟨us ++ [ps[m]], by rw [List.map_append]; rfl, fun u h => ?_, by rw [List.length_append]; simp; omega⟩⟩
            rcases List.mem_append.mp h with h | h
            · exact hu u h
            · rw [List.mem_singleton.mp h]; exact ⟨List.getElem_mem hm, c⟩
          · rw [decide_eq_false (by omega)]
            exact iteF (hG' _ (Same.refl _) ⟨us, rfl, hu, by omega⟩)
        obtain ⟨us, rfl, hu, hul⟩ := hp8
        refine ⟨_, rfl, (by show 0 ≤ sizeLine; decide), fun l0 H9 n9 s9 e9 => ⟨D, l0, _, rfl, rfl, SqL.of (s9 _ _ hacc), SqL.of e9, ?_⟩⟩
        have s79 := s8.trans s9
        have e39 : H9 r3 = some (.lst (ls.map V.str)) := s79 _ _ e67
        have hp9 := hp7.same s79
        have st9 : ∀ q o, q ≠ p → q ≠ r3 → H4 q = some o → H9 q = some o := fun q o n1 n2 e => s79 _ _ (b7 _ _ n1 (st q o n1 n2 e))
        refine ⟨_, rfl, ?_⟩
        cases us with
        | nil => exact iteF ⟨_, _, _, _, _, _, _, _, _, _, ls, rfl, st9, hp9.mono (by omega), e39, hls, by omega⟩
        | cons u0 us =>
          have eD : H9 D = some (.lst ((u0 :: us).map (fun u => V.str (sp u.2)))) := s9 _ _ hacc
          have cat : ∀ {x y : Str} {m n : Nat}, x.length ≤ m → y.length ≤ n → (x ++ y).length ≤ m + n := fun {x y m n} hx hy => by
            rw [TL.len_tl, TL.tl_append, List.length_append, ← TL.len_tl, ← TL.len_tl]; omega
          have w1 : ("found " : Str).length ≤ 7 := by decide +kernel
          have w2 : (" in " : Str).length ≤ 7 := by decide +kernel
          have z1 := cat w1 (spl s hs)
          have z2 := cat z1 w2
          refine iteT ⟨_, rfl, .inl ⟨rfl, _, SqL.of e39⟩, _, rfl, _, _, rfl, rfl, cat_sz w1 (spl s hs) (by decide), _, _, rfl, rfl, cat_sz z1 w2 (by decide), _, rfl, _, rfl, p, c, ns, _, D, _, rfl, hp9, eD, by simp, by rw [List.length_map]; omega, by omega, fun v HA hv hpA bA => ?_⟩
          obtain ⟨u, hum, rfl⟩ := List.mem_map.mp hv
          obtain ⟨hu1, hu2⟩ := hu u hum
          have eA := bA _ _ r3p e39
          refine ⟨_, _, rfl, rfl, cat_sz z2 (spl u hu1) (by decide), r3, _, _, rfl, rfl, eA, small1000 (by rw [List.length_map]; omega), fun HB bB eB => ?_⟩
          have eB : HB r3 = some (.lst (ls.map V.str ++ [V.str (("found " : Str) ++ sp s.2 ++ " in " ++ sp u.2)])) := eB
          refine ⟨_, _, _, _, _, _, _, _, _, _, ls ++ [("found " : Str) ++ sp s.2 ++ " in " ++ sp u.2], rfl, fun q o n1 n2 e => bB _ _ n2 (bA _ _ n1 (st9 q o n1 n2 e)), (hpA.but bB r3p r3c).mono (by omega), by rw [List.map_append]; exact eB, fun x hx => ?_, by rw [List.length_append]; simp; omega⟩
          rcases List.mem_append.mp hx with h | h
          · exact hls x h
          · rw [List.mem_singleton.mp h]
            exact ⟨_, .found ((k4 s hs).col hperm) ((k4 u hu1).col hperm), spots_up D4.nd hperm (k4 s hs) (k4 u hu1) hu2, line_found⟩
      · rintro σ H6 ⟨v5, v6, v7, v8, v9, v10, v11, v12, v13, v14, ls, rfl, st, hp6, e6, hls, lj⟩
        have hl3 : ls.length ≤ 3 := by omega
        refine ⟨_, rfl, _, rfl, r3, _, rfl, .inl (SqL.of e6), _, _, rfl, rfl, p, c, ns, _, 7 - ((ls.length : Nat) : Int), by rw [List.length_map]; rfl, hp6, by omega, by omega, ok_small (by omega), fun d3 H7 d4 d5 hp7 b7 => ?_⟩
        refine ⟨d3, rfl, by omega, by omega, ?_⟩
        have ne3 : ∀ {q : Addr} {o : HO}, H1 q = some o → q ≠ r3 := fun e z => by rw [z, n31] at e; cases e
        have k1 : ∀ {H' : Hp}, (∀ q o, q ≠ p → q ≠ r3 → H4 q = some o → H' q = some o) → Lts H1 H' := fun st => ⟨fun q xs e => st _ _ (nlp hp1 e (fun _ z => by cases z)) (ne3 e) (s14 _ _ e), fun q xs e => st _ _ (nlp hp1 e (fun _ z => by cases z)) (ne3 e) (s14 _ _ e)⟩
        refine for_range (lo := 0) (n := d3.toNat) (fun j σ H' => ∃ (v5 v6 v7 v8 v9 v10 v11 v12 v13 v14 : Option V) (ks : List Str), σ = [some (.ref p), some (.ref a), some (.ref r1), some (.ref a3), some (.ref r3), v5, v6, v7, v8, v9, v10, v11, v12, v13, v14] ∧
            (∀ q o, q ≠ p → q ≠ r3 → H4 q = some o → H' q = some o) ∧ Pen H' p c ns (n + 12 + 5 * j) ∧ H' r3 = some (.lst (ks.map V.str)) ∧ (∀ x ∈ ks, LineOk tabs order x) ∧ ks.length = ls.length + j)
          ⟨v5, v6, v7, v8, v9, v10, v11, v12, v13, v14, ls, rfl, fun q o n1 n2 e => b7 _ _ n1 (st q o n1 n2 e), hp7.mono (by omega), b7 _ _ r3p e6, hls, rfl⟩ ?_ ?_
        · rintro j σ H8 hj ⟨v5, v6, v7, v8, v9, v10, v11, v12, v13, v14, ks, rfl, st, hp8, e8, hks, lk⟩
          refine ⟨_, rfl, p, c, ns, _, 5, rfl, hp8, by omega, by decide, ok_small (by decide), fun w0 Ha w1 w2 hpa ba => ?_⟩
          have sta : ∀ q o, q ≠ p → q ≠ r3 → H4 q = some o → Ha q = some o := fun q o n1 n2 e => ba _ _ n1 (st q o n1 n2 e)
          refine ⟨_, rfl, _, rfl, p, c, ns, _, r1, qs2.map V.ref, rfl, hpa, (k1 sta).1 _ _ e1, by rw [List.length_map]; omega, by rw [List.length_map]; omega, by omega, fun v Hb hv hpb bb => ?_⟩
          obtain ⟨q, hq, rfl⟩ := List.mem_map.mp hv
          obtain ⟨t, ht, cl, g1, g2⟩ := paired_mem hT1 hq
          have htm := hperm.mem_iff.mp ht
          have tg := hG2 t ht
          have stb : ∀ q o, q ≠ p → q ≠ r3 → H4 q = some o → Hb q = some o := fun q o n1 n2 e => bb _ _ n1 (sta q o n1 n2 e)
          refine ⟨(by show 2 ≤ sizeLine; decide), fun qt Hc nq sq eq => ⟨qt, _, rfl, SqT.of eq, rfl, _, _, rfl, _, _, rfl, rfl, ?_⟩⟩
          have stc : ∀ q o, q ≠ p → q ≠ r3 → H4 q = some o → Hc q = some o := fun q o n1 n2 e => sq _ _ (stb q o n1 n2 e)
          have gq := (k1 stc).2 _ _ g1
          have nt := names_len tg.name
          have ws : ("single " : Str).length ≤ 7 := by decide +kernel
          have wf : ("filled " : Str).length ≤ 7 := by decide +kernel
          have wu : ("unique " : Str).length ≤ 7 := by decide +kernel
          have wo : ("sorted " : Str).length ≤ 7 := by decide +kernel
          refine ⟨_, rfl, q, _, 0, _, rfl, rfl, SqT.of gq, atI_nat (k := 0) rfl, _, _, rfl, rfl, cat_sz ws nt (by decide), _, rfl, q, _, 0, _, rfl, rfl, SqT.of gq, atI_nat (k := 0) rfl, _, _, rfl, rfl, cat_sz wf nt (by decide), _, rfl, q, _, 0, _, rfl, rfl, SqT.of gq, atI_nat (k := 0) rfl, _, _, rfl, rfl, cat_sz ws nt (by decide), (by show 3 ≤ sizeLine; decide), fun W Hd nW sW eW => ?_⟩
          have e8d : Hd r3 = some (.lst (ks.map V.str)) := sW _ _ (sq _ _ (bb _ _ r3p (ba _ _ r3p e8)))
          have hpd := (hpb.same sq).same sW
          have std : ∀ q o, q ≠ p → q ≠ r3 → H4 q = some o → Hd q = some o := fun q o n1 n2 e => sW _ _ (stc q o n1 n2 e)
          refine ⟨_, rfl, .inl ⟨rfl, _, SqL.of e8d⟩, _, rfl, _, rfl, _, rfl, p, c, ns, _, q, t, rfl, hpd, ⟨cl, (k1 std).2 _ _ g1, (k1 std).1 _ _ g2⟩, tg, by omega, fun y He hy hpe be => ?_⟩
          have ste : ∀ q o, q ≠ p → q ≠ r3 → H4 q = some o → He q = some o := fun q o n1 n2 e => be _ _ n1 (std q o n1 n2 e)
          have ny : (spotOf t.1 y).length ≤ 25 := sp_len (x := (t.1, y)) ⟨tg.name, tg.cols y hy⟩
          refine ⟨_, _, rfl, rfl, cat_sz wu ny (by decide), _, rfl, _, rfl, p, c, ns, _, q, t, rfl, hpe, ⟨cl, (k1 ste).2 _ _ g1, (k1 ste).1 _ _ g2⟩, tg, by omega, fun y2 Hf hy2 hpf bf => ?_⟩
          have ny2 : (spotOf t.1 y2).length ≤ 25 := sp_len (x := (t.1, y2)) ⟨tg.name, tg.cols y2 hy2⟩
          have stf : ∀ q o, q ≠ p → q ≠ r3 → H4 q = some o → Hf q = some o := fun q o n1 n2 e => bf _ _ n1 (ste q o n1 n2 e)
          refine ⟨_, _, rfl, rfl, cat_sz wo ny2 (by decide), (by show 2 ≤ sizeLine; decide), fun L2 Hg nL2 sL2 eL2 => ?_⟩
          have nWp : W ≠ p := nlp hpd eW (fun _ z => by cases z)
          have eWg := sL2 _ _ (bf _ _ nWp (be _ _ nWp eW))
          refine ⟨W, L2, _, _, rfl, rfl, eWg, eL2, Nat.le_of_lt (small1000 (by simp only [List.length_cons, List.length_nil]; omega)), fun L3 Hh nL3 sL3 eL3 => ?_⟩
          have five : ([V.str (("single " : Str) ++ t.1), V.str (("filled " : Str) ++ t.1), V.str (("single " : Str) ++ t.1)] ++ [V.str (("unique " : Str) ++ spotOf t.1 y), V.str (("sorted " : Str) ++ spotOf t.1 y2)]) = ([lineT (("single" : Str), (t.1, none), none), lineT (("filled" : Str), (t.1, none), none), lineT (("single" : Str), (t.1, none), none), lineT (("unique" : Str), (t.1, some y), none), lineT (("sorted" : Str), (t.1, some y2), none)] : List Str).map V.str := by
            rw [line_single, line_filled, show spotOf t.1 y = sp (t.1, y) from rfl, show spotOf t.1 y2 = sp (t.1, y2) from rfl, line_unique, line_sorted]; rfl
          have eL3 : Hh L3 = some (.lst ([V.str (("single " : Str) ++ t.1), V.str (("filled " : Str) ++ t.1), V.str (("single " : Str) ++ t.1)] ++ [V.str (("unique " : Str) ++ spotOf t.1 y), V.str (("sorted " : Str) ++ spotOf t.1 y2)])) := eL3
          rw [five] at eL3
          have allok : ∀ x ∈ ([lineT (("single" : Str), (t.1, none), none), lineT (("filled" : Str), (t.1, none), none), lineT (("single" : Str), (t.1, none), none), lineT (("unique" : Str), (t.1, some y), none), lineT (("sorted" : Str), (t.1, some y2), none)] : List Str), LineOk tabs order x := fun x hx => by
            have a1 : LineOk tabs order (lineT (("single" : Str), (t.1, none), none)) := ⟨_, .table htm (.inl rfl), upf_none (by decide +kernel), rfl⟩
            have a2 : LineOk tabs order (lineT (("filled" : Str), (t.1, none), none)) := ⟨_, .table htm (.inr rfl), upf_none (by decide +kernel), rfl⟩
            have a3 : LineOk tabs order (lineT (("unique" : Str), (t.1, some y), none)) := ⟨_, .column (x := (t.1, y)) ⟨t, htm, rfl, hy⟩ (.inl rfl), upf_none (by decide +kernel), rfl⟩
            have a4 : LineOk tabs order (lineT (("sorted" : Str), (t.1, some y2), none)) := ⟨_, .column (x := (t.1, y2)) ⟨t, htm, rfl, hy2⟩ (.inr rfl), upf_none (by decide +kernel), rfl⟩
            simp only [List.mem_cons, List.not_mem_nil, or_false] at hx
            rcases hx with h | h | h | h | h <;> rw [h] <;> assumption
          have len5 : ([lineT (("single" : Str), (t.1, none), none), lineT (("filled" : Str), (t.1, none), none), lineT (("single" : Str), (t.1, none), none), lineT (("unique" : Str), (t.1, some y), none), lineT (("sorted" : Str), (t.1, some y2), none)] : List Str).length = 5 := rfl
          generalize ([lineT (("single" : Str), (t.1, none), none), lineT (("filled" : Str), (t.1, none), none), lineT (("single" : Str), (t.1, none), none), lineT (("unique" : Str), (t.1, some y), none), lineT (("sorted" : Str), (t.1, some y2), none)] : List Str) = xs at eL3 allok len5
          have hk : w0.toNat < xs.length := by omega
          have at0 : atI (xs.map V.str) ((w0.toNat : Nat) : Int) = some (V.str xs[w0.toNat]) := atI_nat (k := w0.toNat) (by rw [List.getElem?_map, List.getElem?_eq_getElem hk]; rfl)
          rw [show ((w0.toNat : Nat) : Int) = w0 by omega] at at0
          have e8h : Hh r3 = some (.lst (ks.map V.str)) := sL3 _ _ (sL2 _ _ (bf _ _ r3p (be _ _ r3p e8d)))
          refine ⟨_, rfl, L3, _, w0, _, rfl, rfl, SqL.of eL3, at0, r3, _, _, rfl, rfl, e8h, small1000 (by rw [List.length_map]; omega), fun HI bI eI => ?_⟩
          refine ⟨_, _, _, _, _, _, _, _, _, _, ks ++ [xs[w0.toNat]], rfl, fun q o n1 n2 e => bI _ _ n2 (sL3 _ _ (sL2 _ _ (stf q o n1 n2 e))), (((hpf.same sL2).same sL3).but bI r3p r3c).mono (by omega), by rw [List.map_append]; exact eI, fun x hx => ?_, by rw [List.length_append, lk]; rfl⟩
          rcases List.mem_append.mp hx with h | h
          · exact hks x h
          · rw [List.mem_singleton.mp h]; exact allok _ (List.getElem_mem hk)
        · rintro σ H8 ⟨v5, v6, v7, v8, v9, v10, v11, v12, v13, v14, ks, rfl, st, hp8, e8, hks, lk⟩
          have hol := onces_le ks
          refine ⟨_, rfl, _, rfl, r3, ks, rfl, e8, by omega, fun ro Ho no so eo => ⟨p, c, ns, _, ro, _, rfl, hp8.same so, .inl (SqL.of eo), by rw [List.length_map]; omega, by omega, fun ys r Hr hys nr er hpr br => ?_⟩⟩
          obtain ⟨us, rfl, hus⟩ := perm_strs hys
          obtain ⟨fs, rfl, hfs⟩ := lines_of (ls := us) (tabs := tabs) (order := order) fun x hx => hks x (mem_onces.mp (hus.mem_iff.mp hx))
          have hlen := hus.length_eq
          rw [List.length_map] at hlen
          have b8 : But p H H8 := fun q o n1 e => by
            have z := b1 _ _ n1 e
            exact st _ _ n1 (ne3 z) (s14 _ _ z)
          have bO := (b8.trans (But.of so)).trans br
          refine k order fs r Hr hperm hfs (hus.nodup_iff.mpr (onces_nodup ks)) (by omega) ?_ ?_ (hpr.mono (by rw [List.length_map]; omega)) bO
          · obtain ⟨o, e⟩ := hpr.pre
            exact But.free (b8.trans (But.of so)) (hp8.same so).pre.choose_spec nr
          · unfold linesV
            rw [List.map_map] at er
            exact er
end
end L2.Pf
set_option maxHeartbeats 2000000
namespace L2.Pf
open PySem PySem.Spec PyProof.Rows L2.Ev L2.Tpd L2.Seti L2.Gq L2.Enf L2.Sett L2.Itr L2.Dls L2.Own L2.Dsp L2.Dcs L2.Vls L2.Ent
section
variable {fs gs : List Fact} (hm : ∀ f ∈ fs, f ∈ gs)
include hm
theorem colL_mono : ∀ p ∈ colL fs, p ∈ colL gs := fun p hp => by
  obtain ⟨f, hf, e⟩ := List.mem_filterMap.mp hp
  exact List.mem_filterMap.mpr ⟨f, hm f hf, e⟩
theorem tabL_mono : ∀ p ∈ tabL fs, p ∈ tabL gs := fun p hp => by
  obtain ⟨q, hq, e⟩ := List.mem_map.mp hp
  exact List.mem_map.mpr ⟨q, colL_mono hm q hq, e⟩
theorem reach_mono {a b : Str} (h : Reach (tabL fs) a b) : Reach (tabL gs) a b := by
  induction h with
  | here => exact .here
  | step _ m ih => exact .step ih (tabL_mono hm _ m)
theorem filled_mono {t : Str} (h : Filled fs t) : Filled gs t :=
  let ⟨f, hf, e, r⟩ := h; ⟨f, hm f hf, e, reach_mono hm r⟩
theorem lone_mono {t : Str} (h : Lone fs t) : Lone gs t := by
  induction h with
  | single hf e => exact .single (hm _ hf) e
  | uniq hf e r _ ih => exact .uniq (hm _ hf) e (r.mono (colL_mono hm)) ih
theorem const_mono {x : CP} (h : Const fs x) : Const gs x :=
  let ⟨y, r, l⟩ := h; ⟨y, r.mono (colL_mono hm), lone_mono hm l⟩
theorem turn_mono {t : Str} {p : CP × CP} (h : Turn fs t p) : Turn gs t p := ⟨const_mono hm h.1, h.2.imp (reach_mono hm) (filled_mono hm)⟩
theorem foundI_mono {x g : CP} (h : FoundI fs x g) : FoundI gs x g := RG.mono h fun p hp => by
  rcases List.mem_append.mp hp with h | h
  · exact List.mem_append_left _ (colL_mono hm p h)
  · have z := turned_mem.mp h
    exact List.mem_append_right _ (turned_mem.mpr ⟨colL_mono hm _ z.1, turn_mono hm z.2⟩)
theorem follows_mono {f : Fact} (h : Follows fs f) : Follows gs f := by
  rcases h with ⟨e, h⟩ | ⟨e, h⟩ | ⟨e, h⟩ | ⟨e, h⟩ | ⟨e, h⟩
  · exact .inl ⟨e, filled_mono hm h⟩
  · exact .inr (.inl ⟨e, foundI_mono hm h⟩)
  · exact .inr (.inr (.inl ⟨e, lone_mono hm h⟩))
  · exact .inr (.inr (.inr (.inl ⟨e, h.imp (hm _) (lone_mono hm)⟩)))
  · exact .inr (.inr (.inr (.inr ⟨e, h.imp (hm _) (const_mono hm)⟩)))
end
theorem facts_mem {tabs : Tabs} (G : ∀ t ∈ tabs, GoodTab t) (nd : (tabs.map (·.1)).Nodup) {fs : List Fact} (hF : ∀ f ∈ fs, Fct tabs f) {f : Fact} : f ∈ factsOf tabs (fs.map lineT) ↔ f ∈ fs := by
  unfold factsOf
  rw [List.mem_filterMap]
  refine ⟨fun ⟨x, hx, e⟩ => ?_, fun h => ⟨lineT f, mem_onces.mpr (List.mem_map.mpr ⟨f, h, rfl⟩), line_read G nd (hF f h)⟩⟩
  obtain ⟨g, hg, rfl⟩ := List.mem_map.mp (mem_onces.mp hx)
  rw [line_read G nd (hF g hg)] at e
  cases e
  exact hg
theorem follows_facts {tabs : Tabs} (G : ∀ t ∈ tabs, GoodTab t) (nd : (tabs.map (·.1)).Nodup) {fs : List Fact} (hF : ∀ f ∈ fs, Fct tabs f) {f : Fact} : Follows (factsOf tabs (fs.map lineT)) f ↔ Follows fs f :=
  ⟨follows_mono fun g h => (facts_mem G nd hF).mp h, follows_mono fun g h => (facts_mem G nd hF).mpr h⟩
/-! ### the questions by hand -/
def hL (a k b m : Str) : Fact := (("found" : Str), (a, some k), some (b, some m))
def hS (t : Str) : Fact := (("single" : Str), (t, none), none)
def hF (t : Str) : Fact := (("filled" : Str), (t, none), none)
def hU (a k : Str) : Fact := (("unique" : Str), (a, some k), none)
def hO (a k : Str) : Fact := (("sorted" : Str), (a, some k), none)
theorem lc_L {a k b m : Str} : linkC (hL a k b m) = some ((a, k), (b, m)) := if_pos rfl
theorem lc_S {t : Str} : linkC (hS t) = none := if_neg (show ("single" : Str) ≠ ("found" : Str) by decide +kernel)
theorem lc_F {t : Str} : linkC (hF t) = none := if_neg (show ("filled" : Str) ≠ ("found" : Str) by decide +kernel)
theorem lc_U {a k : Str} : linkC (hU a k) = none := if_neg (show ("unique" : Str) ≠ ("found" : Str) by decide +kernel)
theorem n_SF : ("single" : Str) ≠ ("filled" : Str) := by decide +kernel
theorem n_SU : ("single" : Str) ≠ ("unique" : Str) := by decide +kernel
theorem n_LF : ("found" : Str) ≠ ("filled" : Str) := by decide +kernel
theorem n_LU : ("found" : Str) ≠ ("unique" : Str) := by decide +kernel
theorem n_LS : ("found" : Str) ≠ ("single" : Str) := by decide +kernel
theorem n_FS : ("filled" : Str) ≠ ("single" : Str) := by decide +kernel
theorem n_FU : ("filled" : Str) ≠ ("unique" : Str) := by decide +kernel
theorem n_UF : ("unique" : Str) ≠ ("filled" : Str) := by decide +kernel
theorem n_US : ("unique" : Str) ≠ ("single" : Str) := by decide +kernel
theorem not_found {fs : List Fact} {x g : CP} (S : CP → Prop) (h0 : S x) (hc : ∀ p ∈ colL fs, S p.1 → S p.2) (ht : ∀ p ∈ colL fs, Turn fs x.1 p → S p.2 → S p.1) (hg : ¬ S g) : ¬ FoundI fs x g := fun h => hg (by
  have key : ∀ {y : CP}, RG (colL fs ++ turnedL fs x.1) x y → S y := fun h => by
    induction h with
    | here => exact h0
    | step _ m ih =>
      rcases List.mem_append.mp m with m | m
      · exact hc _ m ih
      · have z := turned_mem.mp m
        exact ht _ z.1 z.2 ih
  exact key h)
theorem not_reach {L : Links} {x y : Str} (S : Str → Prop) (h0 : S x) (hc : ∀ p ∈ L, S p.1 → S p.2) (hg : ¬ S y) : ¬ Reach L x y := fun h => hg (by
  clear hg
  induction h with
  | here => exact h0
  | step _ m ih => exact hc _ m ih)
section
variable {a b c d k m : Str}
theorem col3 {r : List Fact} (hr : colL r = []) : colL ([hL a k b m, hL c k b m, hL c k d m] ++ r) = [((a, k), (b, m)), ((c, k), (b, m)), ((c, k), (d, m))] := by
  unfold colL at hr ⊢
  rw [List.filterMap_append, hr]
  simp only [List.filterMap_cons, List.filterMap_nil, lc_L, List.append_nil]
theorem col2 {r : List Fact} (hr : colL r = []) : colL ([hL a k b m, hL c k b m] ++ r) = [((a, k), (b, m)), ((c, k), (b, m))] := by
  unfold colL at hr ⊢
  rw [List.filterMap_append, hr]
  simp only [List.filterMap_cons, List.filterMap_nil, lc_L, List.append_nil]
theorem col1 {r : List Fact} (hr : colL r = []) : colL ([hL a k b m] ++ r) = [((a, k), (b, m))] := by
  unfold colL at hr ⊢
  rw [List.filterMap_append, hr]
  simp only [List.filterMap_cons, List.filterMap_nil, lc_L, List.append_nil]
theorem fi_of {r : List Fact} {x g : CP} : FoundI r x g ↔ Follows r (hL x.1 x.2 g.1 g.2) := fol_found.symm
theorem q_1 (r : List Fact) (hr : colL r = []) (hab : a ≠ b) (hac : a ≠ c) (hcb : c ≠ b) (had : a ≠ d) (hbd : b ≠ d) (hf : ∀ f ∈ r, f.1 = ("filled" : Str) → f.2.1.1 = d) (hcd : c ≠ d) : ¬ Follows ([hL a k b m, hL c k b m, hL c k d m] ++ r) (hL a k d m) := by
  rw [show hL a k d m = hL ((a, k) : CP).1 ((a, k) : CP).2 ((d, m) : CP).1 ((d, m) : CP).2 from rfl, ← fi_of]
  have ct := col3 (a := a) (b := b) (c := c) (d := d) (k := k) (m := m) hr
  have tt : tabL ([hL a k b m, hL c k b m, hL c k d m] ++ r) = [(a, b), (c, b), (c, d)] := by unfold tabL; rw [ct]; rfl
  have nc : ∀ {m' : CP}, ¬ Turn ([hL a k b m, hL c k b m, hL c k d m] ++ r) a ((c, k), m') := fun {m'} h => by
    rcases h.2 with h | ⟨f, hfm, e, h⟩
    · rw [tt] at h
      refine not_reach (fun t => t = a ∨ t = b) (.inl rfl) (fun p hp => ?_) (fun z => z.elim (fun z => hac z.symm) hcb) h
      simp only [List.mem_cons, List.not_mem_nil, or_false] at hp
      rcases hp with rfl | rfl | rfl
      · exact fun _ => .inr rfl
      · exact fun _ => .inr rfl
      · exact fun z => (z.elim (fun z => hac z.symm) hcb).elim
    · have hd : f.2.1.1 = d := by
        rcases List.mem_append.mp hfm with h | h
        · simp only [List.mem_cons, List.not_mem_nil, or_false] at h
          rcases h with rfl | rfl | rfl <;> exact absurd e n_LF
        · exact hf f h e
      rw [tt, hd] at h
      refine not_reach (fun t => t = d) rfl (fun p hp => ?_) (fun z => hcd z) h
      simp only [List.mem_cons, List.not_mem_nil, or_false] at hp
      rcases hp with rfl | rfl | rfl
      · exact fun z => absurd z had
      · exact fun z => absurd z hcd
      · exact fun z => rfl
  refine not_found (fun p => p = (a, k) ∨ p = (b, m)) (.inl rfl) ?_ ?_ (fun z => z.elim (fun z => had (congrArg Prod.fst z).symm) (fun z => hbd (congrArg Prod.fst z).symm))
  · rw [ct]
    intro p hp
    simp only [List.mem_cons, List.not_mem_nil, or_false] at hp
    rcases hp with rfl | rfl | rfl
    · exact fun _ => .inr rfl
    · exact fun _ => .inr rfl
    · exact fun z => (z.elim (fun z => hac (congrArg Prod.fst z).symm) (fun z => hcb (congrArg Prod.fst z))).elim
  · rw [ct]
    intro p hp
    simp only [List.mem_cons, List.not_mem_nil, or_false] at hp
    rcases hp with rfl | rfl | rfl
    · exact fun _ _ => .inl rfl
    · exact fun z => absurd z nc
    · exact fun z => absurd z nc
theorem q_3 (r : List Fact) (h1 : hS b ∈ r) (h2 : hF c ∈ r) : Follows ([hL a k b m, hL c k b m, hL c k d m] ++ r) (hL a k d m) := by
  rw [show hL a k d m = hL ((a, k) : CP).1 ((a, k) : CP).2 ((d, m) : CP).1 ((d, m) : CP).2 from rfl, ← fi_of]
  have mc : ∀ {f : Fact} {p : CP × CP}, f ∈ [hL a k b m, hL c k b m, hL c k d m] ++ r → linkC f = some p → p ∈ colL ([hL a k b m, hL c k b m, hL c k d m] ++ r) := fun h e => List.mem_filterMap.mpr ⟨_, h, e⟩
  have l1 : ((a, k), (b, m)) ∈ colL ([hL a k b m, hL c k b m, hL c k d m] ++ r) := mc (by simp) lc_L
  have l2 : ((c, k), (b, m)) ∈ colL ([hL a k b m, hL c k b m, hL c k d m] ++ r) := mc (by simp) lc_L
  have l3 : ((c, k), (d, m)) ∈ colL ([hL a k b m, hL c k b m, hL c k d m] ++ r) := mc (by simp) lc_L
  have lb : Lone ([hL a k b m, hL c k b m, hL c k d m] ++ r) b := Lone.single (f := hS b) (List.mem_append_right _ h1) rfl
  have tn : Turn ([hL a k b m, hL c k b m, hL c k d m] ++ r) a ((c, k), (b, m)) := ⟨⟨(b, m), .here, lb⟩, .inr ⟨hF c, List.mem_append_right _ h2, rfl, .here⟩⟩
  exact RG.step (RG.step (RG.step .here (List.mem_append_left _ l1)) (List.mem_append_right _ (turned_mem.mpr ⟨l2, tn⟩))) (List.mem_append_left _ l3)
theorem q_4 (r : List Fact) (hr : colL r = []) (had : a ≠ d) (hbd : b ≠ d) (hcd : c ≠ d) : ¬ Follows ([hL a k b m, hL c k b m] ++ r) (hL a k d m) := by
  rw [show hL a k d m = hL ((a, k) : CP).1 ((a, k) : CP).2 ((d, m) : CP).1 ((d, m) : CP).2 from rfl, ← fi_of]
  refine not_found (fun p => p.1 ≠ d) had ?_ ?_ (fun z => z rfl)
  · rw [col2 hr]
    intro p hp
    simp only [List.mem_cons, List.not_mem_nil, or_false] at hp
    rcases hp with rfl | rfl <;> exact fun _ => hbd
  · rw [col2 hr]
    intro p hp
    simp only [List.mem_cons, List.not_mem_nil, or_false] at hp
    rcases hp with rfl | rfl
    · exact fun _ _ => had
    · exact fun _ _ => hcd
theorem q_5 (r : List Fact) (hr : colL r = []) (had : a ≠ d) (hbd : b ≠ d) : ¬ Follows ([hL a k b m] ++ r) (hL a k d m) := by
  rw [show hL a k d m = hL ((a, k) : CP).1 ((a, k) : CP).2 ((d, m) : CP).1 ((d, m) : CP).2 from rfl, ← fi_of]
  refine not_found (fun p => p.1 ≠ d) had ?_ ?_ (fun z => z rfl)
  · rw [col1 hr]
    intro p hp
    simp only [List.mem_cons, List.not_mem_nil, or_false] at hp
    rcases hp with rfl; exact fun _ => hbd
  · rw [col1 hr]
    intro p hp
    simp only [List.mem_cons, List.not_mem_nil, or_false] at hp
    rcases hp with rfl
    exact fun _ _ => had
theorem q_6l : Lone ([hL a k b m] ++ [hS b, hU a k]) a := by
  have lb : Lone ([hL a k b m] ++ [hS b, hU a k]) b := Lone.single (f := hS b) (by simp) rfl
  exact Lone.uniq (f := hU a k) (y := (b, m)) (by simp) rfl (.step .here (List.mem_filterMap.mpr ⟨hL a k b m, by simp, lc_L⟩)) lb
theorem q_6 : Follows ([hL a k b m] ++ [hS b, hU a k]) (hS a) := fol_single.mpr q_6l
theorem q_6s : Follows ([hL a k b m] ++ [hS b, hU a k]) (hO a m) := (fol_sorted (x := (a, m))).mpr (.inr ⟨(a, m), .here, q_6l⟩)
theorem q_7 : Follows ([hL a k b m] ++ [hS b, hF a]) (hL b m a k) := by
  rw [show hL b m a k = hL ((b, m) : CP).1 ((b, m) : CP).2 ((a, k) : CP).1 ((a, k) : CP).2 from rfl, ← fi_of]
  have lb : Lone ([hL a k b m] ++ [hS b, hF a]) b := Lone.single (f := hS b) (by simp) rfl
  exact .step .here (List.mem_append_right _ (turned_mem.mpr ⟨List.mem_filterMap.mpr ⟨hL a k b m, by simp, lc_L⟩, ⟨(b, m), .here, lb⟩, .inr ⟨hF a, by simp, rfl, .here⟩⟩))
theorem q_7n (hab : a ≠ b) : ¬ Follows ([hL a k b m] ++ [hS b, hF a]) (hS a) := fun h => by
  have h := fol_single.mp h
  have key : ∀ t, Lone ([hL a k b m] ++ [hS b, hF a]) t → t = b := fun t h => by
    cases h with
    | single hf e =>
      simp only [List.cons_append, List.nil_append, List.mem_cons, List.not_mem_nil, or_false] at hf
      rcases hf with rfl | rfl | rfl
      · exact absurd e n_LS
      · rfl
      · exact absurd e n_FS
    | uniq hf e _ _ =>
      simp only [List.cons_append, List.nil_append, List.mem_cons, List.not_mem_nil, or_false] at hf
      rcases hf with rfl | rfl | rfl
      · exact absurd e n_LU
      · exact absurd e n_SU
      · exact absurd e n_FU
  exact hab (key a h)
theorem q_7s : Follows ([hL a k b m] ++ [hS b, hF a]) (hO a k) := (fol_sorted (x := (a, k))).mpr (.inr ⟨(b, m), .step .here (List.mem_filterMap.mpr ⟨hL a k b m, by simp, lc_L⟩), Lone.single (f := hS b) (by simp) rfl⟩)
end
end L2.Pf
set_option maxHeartbeats 4000000
namespace L2.Pf
open PySem PySem.Spec PyProof.Rows L2.Ev L2.Tpd L2.Seti L2.Gq L2.Enf L2.Sett L2.Itr L2.Dls L2.Own L2.Dsp L2.Dcs L2.Vls L2.Ent
theorem t_found : ("found " : Str) = ("found" : Str) ++ " " := by decide +kernel
theorem t_in : (" in " : Str) = (" " : Str) ++ "in" ++ " " := by decide +kernel
theorem t_link {a k b m : Str} : ("found " : Str) ++ a ++ "." ++ k ++ " in " ++ b ++ "." ++ m = lineT (hL a k b m) := by
  show _ = ("found" : Str) ++ " " ++ (a ++ "." ++ k) ++ " " ++ "in" ++ " " ++ (b ++ "." ++ m)
  rw [t_found, t_in]
  simp only [Str.append_assoc]
theorem t_uniq {a k : Str} : ("unique " : Str) ++ a ++ "." ++ k = lineT (hU a k) := by
  show _ = ("unique" : Str) ++ " " ++ (a ++ "." ++ k)
  rw [show ("unique " : Str) = ("unique" : Str) ++ " " by decide +kernel]
  simp only [Str.append_assoc]
theorem t_sort {a k : Str} : ("sorted " : Str) ++ a ++ "." ++ k = lineT (hO a k) := by
  show _ = ("sorted" : Str) ++ " " ++ (a ++ "." ++ k)
  rw [show ("sorted " : Str) = ("sorted" : Str) ++ " " by decide +kernel]
  simp only [Str.append_assoc]
theorem t_tab {n k m : Str} : ("table " : Str) ++ n ++ " " ++ k ++ " " ++ m = tabLine (n, [k, m]) := by
  refine TL.ext_tl ?_
  unfold tabLine
  rw [TL.join_eq, TL.tl_join, show ("table " : Str) = ("table" : Str) ++ " " by decide +kernel]
  simp only [TL.tl_append, List.map_cons, List.map_nil, TL.joinL, List.append_assoc]
section
variable {P : Program} {w : World} {K : PySem.W.Frag} {mg : Str → Option Value} {base : Heap}
theorem okn_of {m : Nat} {tabs : Tabs} (D : DrawnTabs m tabs) : OkN tabs := fun t ht => ⟨nm_ok (D.names t ht), fun y hy => nm_ok ((D.cols t ht).2.2.2 y hy)⟩
theorem line_sizes {x : Str} (h : x.length ≤ 1000) : x.length ≤ 10000 ∧ ∀ y ∈ Txt.split x " ", y.length ≤ 10000 := ⟨by omega, fun y hy => by have z := part_short hy; omega⟩
theorem ask_len {tabs : Tabs} {g : Fact} (D : DrawnTabs 4 tabs) (hg : Fct tabs g) : (lineT g).length ≤ 10000 ∧ ∀ y ∈ Txt.split (lineT g) " ", y.length ≤ 10000 := line_sizes (x := lineT g) (by have z := line_len D.good hg; omega)
theorem ask_yes {tabs : Tabs} {fs : List Fact} {g g' : Fact} {b : Bool} (D : DrawnTabs 4 tabs) (hF : ∀ f ∈ fs, Fct tabs f) (hg : Fct tabs g) (e : readWords tabs (Txt.split (lineT g) " ") = some g') (hb : b = true ↔ Follows (factsOf tabs (fs.map lineT)) g') : b = true ↔ Follows fs g := by
  rw [line_read D.good D.nd hg] at e
  cases e
  exact hb.trans (follows_facts D.good D.nd hF)
theorem ask_no {tabs : Tabs} {g : Fact} (D : DrawnTabs 4 tabs) (hg : Fct tabs g) : ¬ readWords tabs (Txt.split (lineT g) " ") = none := fun e => by
  rw [line_read D.good D.nd hg] at e
  cases e
theorem few_lines {fs : List Fact} (h : fs.length ≤ 100) : (fs.map lineT).length ≤ 100 := by rw [List.length_map]; exact h
theorem build {PL CS CB C : Addr} {tabs : Tabs} {o : List Str} {fs : List Fact} {H : Hp} {f dx sa l : Addr} {Q : VK} {E : XK} (D : DrawnTabs 4 tabs) (hF : ∀ f ∈ fs, Fct tabs f ∧ UpF o f) (hl : fs.length ≤ 100) (e : H f = some (.ins C dx [])) (hS : SchemaAt CS H sa tabs) (el : H l = some (.lst (linesV fs))) (hP : H PL = some (TabX PL))
    (k : ∀ H', But f H H' → FactsAt C CS tabs H' f (fs.map lineT) → Q .non H') : sp_Facts_init (K := K) PL CS CB C [.ref f, .ref sa, .ref l] H Q E := by
  have ev : linesV fs = (fs.map lineT).map V.str := by unfold linesV; rw [List.map_map]; rfl
  rw [ev] at el
  refine ⟨f, dx, sa, l, fs.map lineT, tabs, rfl, e, hS, .inl (SqL.of el), by rw [List.length_map]; omega, fun x hx => ?_, hP, fun L H' _ b fa => k H' b fa, fun i H' dx er _ _ => ?_⟩
  · obtain ⟨g, hg, rfl⟩ := List.mem_map.mp hx
    exact line_sizes (by have z := line_len D.good (hF g hg).1; omega)
  · obtain ⟨L, e⟩ := ups_ok (tabs := tabs) (r := rk o) (ls := fs.map lineT) fun x hx => by
      obtain ⟨g, hg, rfl⟩ := List.mem_map.mp hx
      exact up_line D.good D.nd (hF g hg).1 (hF g hg).2
    rw [e] at er; cases er
theorem cat2 {H : Hp} {l1 l2 : Addr} {fs gs : List Fact} {Q : VK} (e1 : H l1 = some (.lst (linesV fs))) (e2 : H l2 = some (.lst (linesV gs))) (h1 : fs.length ≤ 100) (h2 : gs.length ≤ 100)
    (k : ∀ a H', H a = none → Same H H' → H' a = some (.lst (linesV (fs ++ gs))) → Q (.ref a) H') : rCatS (.ref l1) (.ref l2) H Q := by
  refine ⟨l1, l2, _, _, rfl, rfl, e1, e2, Nat.le_of_lt (small1000 (by unfold linesV; simp only [List.length_map]; omega)), fun a H' n s e => k a H' n s ?_⟩
  unfold linesV at e ⊢
  rw [List.map_append]; exact e
theorem szL {x k y m : Str} (hx : x.length ≤ 12) (hk : k.length ≤ 12) (hy : y.length ≤ 12) (hm : m.length ≤ 12) :
    ("found " : Str).length + x.length ≤ sizeLine ∧ (("found " : Str) ++ x).length + ("." : Str).length ≤ sizeLine ∧ (("found " : Str) ++ x ++ ".").length + k.length ≤ sizeLine ∧ (("found " : Str) ++ x ++ "." ++ k).length + (" in " : Str).length ≤ sizeLine ∧
    (("found " : Str) ++ x ++ "." ++ k ++ " in ").length + y.length ≤ sizeLine ∧ (("found " : Str) ++ x ++ "." ++ k ++ " in " ++ y).length + ("." : Str).length ≤ sizeLine ∧ (("found " : Str) ++ x ++ "." ++ k ++ " in " ++ y ++ ".").length + m.length ≤ sizeLine := by
  have cat : ∀ {x y : Str} {m n : Nat}, x.length ≤ m → y.length ≤ n → (x ++ y).length ≤ m + n := fun {x y m n} hx hy => by
    rw [TL.len_tl, TL.tl_append, List.length_append, ← TL.len_tl, ← TL.len_tl]; omega
  have wf : ("found " : Str).length ≤ 7 := by decide +kernel
  have wd : ("." : Str).length ≤ 7 := by decide +kernel
  have wi : (" in " : Str).length ≤ 7 := by decide +kernel
  have z1 := cat wf hx
  have z2 := cat z1 wd
  have z3 := cat z2 hk
  have z4 := cat z3 wi
  have z5 := cat z4 hy
  have z6 := cat z5 wd
  exact ⟨cat_sz wf hx (by decide), cat_sz z1 wd (by decide), cat_sz z2 hk (by decide), cat_sz z3 wi (by decide), cat_sz z4 hy (by decide), cat_sz z5 wd (by decide), cat_sz z6 hm (by decide)⟩
theorem szU {w x k : Str} (hw : w.length ≤ 7) (hx : x.length ≤ 12) (hk : k.length ≤ 12) : w.length + x.length ≤ sizeLine ∧ (w ++ x).length + ("." : Str).length ≤ sizeLine ∧ (w ++ x ++ ".").length + k.length ≤ sizeLine := by
  have cat : ∀ {x y : Str} {m n : Nat}, x.length ≤ m → y.length ≤ n → (x ++ y).length ≤ m + n := fun {x y m n} hx hy => by
    rw [TL.len_tl, TL.tl_append, List.length_append, ← TL.len_tl, ← TL.len_tl]; omega
  have wd : ("." : Str).length ≤ 7 := by decide +kernel
  have z1 := cat hw hx
  have z2 := cat z1 wd
  exact ⟨cat_sz hw hx (by decide), cat_sz z1 wd (by decide), cat_sz z2 hk (by decide)⟩
theorem eqv_str1 {x : Str} (h : PyData.strOk x = true) : ∃ d, (∀ {H : Hp}, Dp K H (.str x) d) ∧ SeqAt.shaped d = true ∧ PyData.eqv d d = true := ⟨.str x, .str x, Bool.and_eq_true_iff.mpr ⟨h, rfl⟩, SeqAt.eqv_refl _ h⟩
/-- a row of the law's questions by hand: lines and what is due -/
def HandRow (H : Hp) (q : Addr) (r : List Fact × Bool) : Prop := ∃ l, H q = some (.tup [.ref l, .bl r.2]) ∧ H l = some (.lst (linesV r.1))
theorem HandRow.same {H H' : Hp} {q : Addr} {r : List Fact × Bool} (h : HandRow H q r) (s : Same H H') : HandRow H' q r := let ⟨l, a, b⟩ := h; ⟨l, s _ _ a, s _ _ b⟩
theorem HandRow.over {H H' : Hp} {W q : Addr} {r : List Fact × Bool} (h : HandRow H q r) (n : H W = none) (b : ∀ q o, q ≠ W → H q = some o → H' q = some o) : HandRow H' q r :=
  let ⟨l, e1, e2⟩ := h; ⟨l, b _ _ (fun z => by rw [z, n] at e1; cases e1) e1, b _ _ (fun z => by rw [z, n] at e2; cases e2) e2⟩
def sp_hand_right (P1 P2 P3 PC PF : Addr) : Sp := fun vs H Q _ => ∃ (p c : Addr) (ns : List Int) (n : Nat), vs = [.ref p] ∧ Pen H p c ns n ∧ n ≤ 2 ^ 48 ∧ H P1 = some (TabX P1) ∧ H P2 = some (TabX P2) ∧ H P3 = some (TabX P3) ∧ H PC = some (TabX PC) ∧ H PF = some (TabX PF) ∧
  ∀ H', But p H H' → Q (.bl true) H'
theorem ok_hand_right (T : TX K mg) (B : TB T base) : FnOk P w K mg base CX0 9 T.a_hand_right T.fd_hand_right p_hand_right (sp_hand_right T.P_is_name T.P_is_table_line T.P_leads_back T.P_is_constant T.P_is_filled) := by
  refine T.F_hand_right.ok sc_hand_right (fun vs H Q E h => ?_) (fun cdv A outer s H vs Q E hr h => ?_)
  · obtain ⟨p, c, ns, n, rfl, _⟩ := h
    rfl
  · obtain ⟨p, c, ns, n, rfl, hp, hn, hP1, hP2, hP3, hPC, hPF, kk⟩ := h
    refine ⟨_, (pss_cons (ps_asg (pe_call (ok_new_names T B) (hr.mono (by decide)) rfl T.g_new_names T.F_new_names.kp T.b_new_names .nil pass0 (pa_cons (pv 0) (pa_cons pe_int pa_nil))) (pg_lst rfl (pgs_cons (pg_name (i := 1) sc_hand_right.nd rfl (Or.inl rfl)) (pgs_cons (pg_name (i := 2) sc_hand_right.nd rfl (Or.inl rfl)) (pgs_cons (pg_name (i := 3) sc_hand_right.nd rfl (Or.inl rfl)) (pgs_cons (pg_name (i := 4) sc_hand_right.nd rfl (Or.inl rfl)) (pgs_cons (pg_name (i := 5) sc_hand_right.nd rfl (Or.inr rfl)) (pgs_cons (pg_name (i := 6) sc_hand_right.nd rfl (Or.inr rfl)) pgs_nil))))))))
  (pss_cons (ps_set (i := 7) sc_hand_right.nd rfl (Or.inl rfl) (pe_make T.mk_Schema (ok_Schema_init T B) (hr.mono (by decide)) (by rfl) T.g_Schema T.b_Schema_init .nil pass0 (pa_cons (pe_joinK (K := K) rfl pe_str (pe_lc (own := [("_law_name", 8)]) (g := gName 8) (tt := tYes) rfl sc_hand_right.nd (pi_tup (pe_tupS (pa_cons (pv 1) (pa_cons (pv 2) (pa_cons (pv 3) (pa_cons (pv 4) pa_nil)))))) (blkOk_by (own := [("_law_name", 8)]) (N := n_hand_right) (sc := defScope s_hand_right) (by decide +kernel)) (fun _ _ _ _ _ => (pg_name (i := 8) sc_hand_right.nd rfl (Or.inl rfl))) (fun _ _ _ _ _ => pts_nil) (fun _ _ _ _ _ => (pe_op op_add_str (pe_op op_add_str (pe_op op_add_str (pe_op op_add_str (pe_op op_add_str pe_str (pv 8)) pe_str) (pv 5)) pe_str) (pv 6))))) pa_nil)))
  (pss_cons (ps_setLc (i := 9) (own := [("_law_one", 10), ("_law_two", 11)]) (g := gTup K 2 (gCons (gName 10) (gCons (gName 11) gNil))) (tt := tYes) rfl sc_hand_right.nd rfl rfl (sw_true rfl rfl rfl (by decide +kernel)) (pi_tup (pe_tupS (pa_cons (pe_tupS (pa_cons (pv 1) (pa_cons (pv 2) pa_nil))) (pa_cons (pe_tupS (pa_cons (pv 3) (pa_cons (pv 2) pa_nil))) (pa_cons (pe_tupS (pa_cons (pv 3) (pa_cons (pv 4) pa_nil))) pa_nil))))) (blkOk_by (own := [("_law_one", 10), ("_law_two", 11)]) (N := n_hand_right) (sc := defScope s_hand_right) (by decide +kernel)) (fun _ _ _ _ _ => (pg_tup rfl (pgs_cons (pg_name (i := 10) sc_hand_right.nd rfl (Or.inl rfl)) (pgs_cons (pg_name (i := 11) sc_hand_right.nd rfl (Or.inl rfl)) pgs_nil)))) (fun _ _ _ _ _ => pts_nil) (fun _ _ _ _ _ => (pe_op op_add_str (pe_op op_add_str (pe_op op_add_str (pe_op op_add_str (pe_op op_add_str (pe_op op_add_str (pe_op op_add_str pe_str (pv 10)) pe_str) (pv 5)) pe_str) (pv 11)) pe_str) (pv 6))))
  (pss_cons (ps_par (i := 12) (j := 13) (by rfl) sc_hand_right.nd rfl rfl (by decide) rfl rfl (pa_cons (pe_lstS (pa_cons (pe_op op_add_str pe_str (pv 2)) (pa_cons (pe_op op_add_str pe_str (pv 4)) pa_nil))) (pa_cons (pe_op op_add_str (pe_op op_add_str (pe_op op_add_str (pe_op op_add_str (pe_op op_add_str (pe_op op_add_str (pe_op op_add_str pe_str (pv 1)) pe_str) (pv 5)) pe_str) (pv 4)) pe_str) (pv 6)) pa_nil)) (by rfl))
  (pss_cons (ps_set (i := 14) sc_hand_right.nd rfl (Or.inl rfl) (pe_lstS (pa_cons (pe_tupS (pa_cons (pe_op op_catS (pv 9) (pv 12)) (pa_cons pe_bl pa_nil))) (pa_cons (pe_tupS (pa_cons (pe_op op_catS (pe_op op_catS (pv 9) (pv 12)) (pe_lstS (pa_cons (pe_op op_add_str pe_str (pv 4)) pa_nil))) (pa_cons pe_bl pa_nil))) (pa_cons (pe_tupS (pa_cons (pe_op op_catS (pe_op op_catS (pv 9) (pv 12)) (pe_lstS (pa_cons (pe_op op_add_str pe_str (pv 3)) pa_nil))) (pa_cons pe_bl pa_nil))) pa_nil)))))
  (pss_cons (ps_expr (pe_bm PySem.F.plainAttrs_list PySem.F.slot_list_append PySem.F.type_list_append mt_appendS (pv 14) (pa_cons (pe_tupS (pa_cons (pe_op op_catS (pe_op op_catS (pe_slice (sl_listS (K := K)) (pv 9) po_none (po_some pe_int)) (pv 12)) (pe_lstS (pa_cons (pe_op op_add_str pe_str (pv 3)) pa_nil))) (pa_cons pe_bl pa_nil))) pa_nil)))
  (pss_cons (ps_expr (pe_bm PySem.F.plainAttrs_list PySem.F.slot_list_append PySem.F.type_list_append mt_appendS (pv 14) (pa_cons (pe_tupS (pa_cons (pe_op op_catS (pe_slice (sl_listS (K := K)) (pv 9) po_none (po_some pe_int)) (pe_lstS (pa_cons (pe_op op_add_str pe_str (pv 2)) (pa_cons (pe_op op_add_str (pe_op op_add_str (pe_op op_add_str pe_str (pv 1)) pe_str) (pv 5)) pa_nil)))) (pa_cons pe_bl pa_nil))) pa_nil)))
  (pss_cons (ps_for PassesOwn.never rfl (pi_list (pv 14)) (pg_tup rfl (pgs_cons (pg_name (i := 15) sc_hand_right.nd rfl (Or.inl rfl)) (pgs_cons (pg_name (i := 16) sc_hand_right.nd rfl (Or.inl rfl)) pgs_nil))) (pss_one (ps_if (pt_cmpR (op_neD hr.units) (pe_callB L2.Vls.call_repr_bool (by rfl) T.z_repr (by decide +kernel) (pa_cons (pe_meth (pe_make T.mk_Facts (ok_Facts_init T B) (hr.mono (by decide)) (by rfl) T.g_Facts T.b_Facts_init .nil passL (pa_cons (pv 7) (pa_cons (pv 15) pa_nil))) T.cl_Facts T.m_Facts_implies (ok_Facts_implies T B) (hr.mono (by decide)) T.b_Facts_implies .nil passL (pa_cons (pv 13) pa_nil)) pa_nil)) (pe_callB L2.Vls.call_repr_bool (by rfl) T.z_repr (by decide +kernel) (pa_cons (pv 16) pa_nil)) (nomark _)) (pss_one (ps_ret pe_bl)) pss_nil)))
  (pss_cons (ps_set (i := 17) sc_hand_right.nd rfl (Or.inl rfl) (pe_make T.mk_Facts (ok_Facts_init T B) (hr.mono (by decide)) (by rfl) T.g_Facts T.b_Facts_init .nil passL (pa_cons (pv 7) (pa_cons (pe_op op_catS (pe_slice (sl_listS (K := K)) (pv 9) po_none (po_some pe_int)) (pe_lstS (pa_cons (pe_op op_add_str pe_str (pv 2)) (pa_cons (pe_op op_add_str (pe_op op_add_str (pe_op op_add_str pe_str (pv 1)) pe_str) (pv 5)) pa_nil)))) pa_nil))))
  (pss_join (ps_if (PW.pt (pw_or (pt_cmpR op_notBl (pe_meth (pv 17) T.cl_Facts T.m_Facts_implies (ok_Facts_implies T B) (hr.mono (by decide)) T.b_Facts_implies .nil passL (pa_cons (pe_op op_add_str pe_str (pv 1)) pa_nil)) pe_bl (nomark _)) (pw_or1 (pt_cmpR op_notBl (pe_meth (pv 17) T.cl_Facts T.m_Facts_implies (ok_Facts_implies T B) (hr.mono (by decide)) T.b_Facts_implies .nil passL (pa_cons (pe_op op_add_str (pe_op op_add_str (pe_op op_add_str pe_str (pv 1)) pe_str) (pv 6)) pa_nil)) pe_bl (nomark _))))) (pss_one (ps_ret pe_bl)) pss_nil)
  (pss_cons (ps_set (i := 17) sc_hand_right.nd rfl (Or.inl rfl) (pe_make T.mk_Facts (ok_Facts_init T B) (hr.mono (by decide)) (by rfl) T.g_Facts T.b_Facts_init .nil passL (pa_cons (pv 7) (pa_cons (pe_op op_catS (pe_slice (sl_listS (K := K)) (pv 9) po_none (po_some pe_int)) (pe_lstS (pa_cons (pe_op op_add_str pe_str (pv 2)) (pa_cons (pe_op op_add_str pe_str (pv 1)) pa_nil)))) pa_nil))))
  (pss_cons (ps_if (pt_cmpR op_notBl (pe_meth (pv 17) T.cl_Facts T.m_Facts_implies (ok_Facts_implies T B) (hr.mono (by decide)) T.b_Facts_implies .nil passL (pa_cons (pe_op op_add_str (pe_op op_add_str (pe_op op_add_str (pe_op op_add_str (pe_op op_add_str (pe_op op_add_str (pe_op op_add_str pe_str (pv 2)) pe_str) (pv 6)) pe_str) (pv 1)) pe_str) (pv 5)) pa_nil)) pe_bl (nomark _)) (pss_one (ps_ret pe_bl)) pss_nil)
  (pss_one (ps_ret (pe_and (pe_cmpR op_isBl (pe_meth (pv 17) T.cl_Facts T.m_Facts_implies (ok_Facts_implies T B) (hr.mono (by decide)) T.b_Facts_implies .nil passL (pa_cons (pe_op op_add_str pe_str (pv 1)) pa_nil)) pe_bl (nomark _)) (pe_one (pe_cmpR op_isBl (pe_meth (pv 17) T.cl_Facts T.m_Facts_implies (ok_Facts_implies T B) (hr.mono (by decide)) T.b_Facts_implies .nil passL (pa_cons (pe_op op_add_str (pe_op op_add_str (pe_op op_add_str pe_str (pv 1)) pe_str) (pv 5)) pa_nil)) pe_bl (nomark _)))))))))))))))))), ?_⟩
    refine ⟨_, rfl, p, c, ns, n, 6, rfl, hp, by decide, by omega, fun us r0 H1 hul hund hun n0 e0 hp1 b1 => ?_⟩
    obtain ⟨a, b, c', d, k, m, rfl⟩ : ∃ a b c d k m, us = [a, b, c, d, k, m] := by
      match us, hul with
      | [a, b, c, d, k, m], _ => exact ⟨a, b, c, d, k, m, rfl⟩
    refine ⟨r0, _, rfl, SqL.of e0, rfl, _, _, rfl, _, _, rfl, _, _, rfl, _, _, rfl, _, _, rfl, _, _, rfl, rfl, ?_⟩
    obtain ⟨hab, hac, had, hbc, hbd, hcd, hkm⟩ : a ≠ b ∧ a ≠ c' ∧ a ≠ d ∧ b ≠ c' ∧ b ≠ d ∧ c' ≠ d ∧ k ≠ m := by
      simp only [List.nodup_cons, List.mem_cons, List.not_mem_nil, or_false, not_or] at hund
      exact ⟨hund.1.1, hund.1.2.1, hund.1.2.2.1, hund.2.1.1, hund.2.1.2.1, hund.2.2.1.1, hund.2.2.2.2.1⟩
    have ia : a ∈ NAMES := hun a (by simp)
    have ib : b ∈ NAMES := hun b (by simp)
    have ic : c' ∈ NAMES := hun c' (by simp)
    have id_ : d ∈ NAMES := hun d (by simp)
    have ik : k ∈ NAMES := hun k (by simp)
    have im : m ∈ NAMES := hun m (by simp)
    obtain ⟨tabs, htabs⟩ : ∃ t : Tabs, t = [(a, [k, m]), (b, [k, m]), (c', [k, m]), (d, [k, m])] := ⟨_, rfl⟩
    have D : DrawnTabs 4 tabs := by
      rw [htabs]
      refine ⟨by simp, by simp, fun t ht => ?_, by simp [hab, hac, had, hbc, hbd, hcd], fun t ht => ?_⟩
      · simp only [List.mem_cons, List.not_mem_nil, or_false] at ht
        rcases ht with rfl | rfl | rfl | rfl <;> assumption
      · have e : t.2 = [k, m] := by
          simp only [List.mem_cons, List.not_mem_nil, or_false] at ht
          rcases ht with rfl | rfl | rfl | rfl <;> rfl
        rw [e]
        refine ⟨by simp, by simp, by simp [hkm], fun y hy => ?_⟩
        simp only [List.mem_cons, List.not_mem_nil, or_false] at hy
        rcases hy with rfl | rfl <;> assumption
    have vc : ∀ {t : Str}, t ∈ [a, b, c', d] → Col tabs (t, k) ∧ Col tabs (t, m) := fun {t} ht => by
      have z : (t, [k, m]) ∈ tabs := by
        rw [htabs]
        simp only [List.mem_cons, List.not_mem_nil, or_false] at ht ⊢
        rcases ht with rfl | rfl | rfl | rfl <;> simp
      exact ⟨⟨_, z, rfl, by simp⟩, ⟨_, z, rfl, by simp⟩⟩
    have vt : ∀ {t : Str}, t ∈ [a, b, c', d] → (t, [k, m]) ∈ tabs := fun {t} ht => by
      rw [htabs]
      simp only [List.mem_cons, List.not_mem_nil, or_false] at ht ⊢
      rcases ht with rfl | rfl | rfl | rfl <;> simp
    have cat : ∀ {x y : Str} {m n : Nat}, x.length ≤ m → y.length ≤ n → (x ++ y).length ≤ m + n := fun {x y m n} hx hy => by
      rw [TL.len_tl, TL.tl_append, List.length_append, ← TL.len_tl, ← TL.len_tl]; omega
    have w7 : ∀ {w : Str}, w ∈ [("single " : Str), "filled ", "unique ", "sorted ", "found ", " in ", ".", "table ", " "] → w.length ≤ 7 := fun {w} hw => by
      have z : ∀ w ∈ [("single " : Str), "filled ", "unique ", "sorted ", "found ", " in ", ".", "table ", " "], w.length ≤ 7 := by decide +kernel
      exact z w hw
    have wt := w7 (w := "table ") (by simp)
    have ws := w7 (w := " ") (by simp)
    have wd := w7 (w := ".") (by simp)
    have wf := w7 (w := "found ") (by simp)
    have wi := w7 (w := " in ") (by simp)
    have wS := w7 (w := "single ") (by simp)
    have wF := w7 (w := "filled ") (by simp)
    have wU := w7 (w := "unique ") (by simp)
    have wO := w7 (w := "sorted ") (by simp)
    have nk := names_len ik
    have nm := names_len im
    have na := names_len ia
    have nb := names_len ib
    have nc := names_len ic
    have nd := names_len id_
    -- the schema
    refine ⟨⟨_, rfl⟩, _, rfl, _, rfl, _, rfl, _, rfl, (by show 4 ≤ sizeLine; decide), fun tq H2 n2 s2 e2 => ⟨tq, rfl, ⟨_, SqT.of e2⟩, fun D0 hD0 => ?_⟩⟩
    have e2 : H2 tq = some (.tup ([a, b, c', d].map V.str)) := e2
    have n4 : ∀ t ∈ [a, b, c', d], t.length ≤ 12 := fun t ht => by
      simp only [List.mem_cons, List.not_mem_nil, or_false] at ht
      rcases ht with rfl | rfl | rfl | rfl <;> assumption
    have ht4 : ([a, b, c', d].map fun t => tabLine (t, [k, m])) = tabs.map tabLine := by rw [htabs]; rfl
    have l4 : [a, b, c', d].length = 4 := rfl
    generalize hv4 : [a, b, c', d] = v4 at e2 n4 ht4 l4
    refine lc_grow (n := v4.length) hD0 (fun i acc Hc => acc = ((v4.take i).map fun t => tabLine (t, [k, m])).map V.str) (fun _ _ _ _ h _ => h) (fun _ _ => rfl)
      (fun i Hc hi s => ⟨_, V.str v4[i], SqT.of (s _ _ e2), by rw [List.getElem?_map, List.getElem?_eq_getElem hi]; rfl⟩) (fun Hc s => ⟨_, SqT.of (s _ _ e2), by rw [List.length_map]; exact Nat.le_refl _⟩) (small1000 (by omega)) (fun i acc Hc F G' hF hG' hi s hacc hp x Hc' yl => ?_) (fun acc H3 s3 hacc hp => ?_)
    · obtain ⟨eH, ev⟩ := yl
      subst eH
      have ev := ev _ (SqT.of (s _ _ e2))
      rw [List.getElem?_map, List.getElem?_eq_getElem hi] at ev
      cases ev
      have nx := n4 _ (List.getElem_mem hi)
      have z1 := cat wt nx
      have z2 := cat z1 ws
      have z3 := cat z2 nk
      have z4 := cat z3 ws
      refine ⟨rfl, _, rfl, _, _, rfl, rfl, cat_sz wt nx (by decide), _, _, rfl, rfl, cat_sz z1 ws (by decide), _, rfl, _, _, rfl, rfl, cat_sz z2 nk (by decide), _, _, rfl, rfl, cat_sz z3 ws (by decide), _, rfl, _, _, rfl, rfl, cat_sz z4 nm (by decide), hF _ _ (Same.refl _) ?_⟩
      rw [hp, List.take_add_one, List.getElem?_eq_getElem hi, List.map_append, List.map_append, t_tab]; rfl
    rw [List.take_length, ht4] at hp
    subst hp
    have GT := text_good D
    refine ⟨_, D0, tabs.map tabLine, rfl, rfl, .inl (SqL.of hacc), ?_, ?_⟩
    · have z := sum_len (l := tabs.map tabLine) (k := 100) fun x hx => by
        obtain ⟨t, ht, e⟩ := List.mem_map.mp hx
        rw [← e]
        exact tabLine_len (D.good t ht)
      have e6 : ("\n" : Str).length = 1 := by decide +kernel
      have hf := D.few
      rw [e6]
      rw [List.length_map] at z ⊢
      omega
    intro sa sdx nsa nsdx sne
    have sS : Same H3 (upd (upd H3 sdx (.own sa)) sa (.ins T.C_Schema sdx [])) := Same.new (Same.new (Same.refl _) nsdx) (by rw [upd_ne (Ne.symm sne)]; exact nsa)
    have eS : (upd (upd H3 sdx (.own sa)) sa (.ins T.C_Schema sdx [])) sa = some (.ins T.C_Schema sdx []) := upd_same
    generalize upd (upd H3 sdx (.own sa)) sa (.ins T.C_Schema sdx []) = H4 at sS eS
    have nT : ∀ {q : Addr}, H q = some (TabX q) → q ≠ p := fun e z => by
      obtain ⟨o, e2⟩ := hp.pre
      rw [z, e2] at e; cases e
    have s14 := (s2.trans s3).trans sS
    have tt : ∀ {H' : Hp} {q : Addr}, Same H1 H' → H q = some (TabX q) → H' q = some (TabX q) := fun s e => s _ _ (b1 _ _ (nT e) e)
    refine ⟨sa, sdx, schemaText tabs, rfl, eS, GT, tt s14 hP1, tt s14 hP2, fun H5 b5 hSc => ⟨rfl, ?_⟩⟩
    rw [text_tabs D] at hSc
    have s15 : Same H1 H5 := fun q o e => b5 _ _ (fun z => by
      have z2 := (s2.trans s3) _ _ e
      rw [z, nsa] at z2; cases z2) (s14 _ _ e)
    -- the links
    refine ⟨_, rfl, _, rfl, (by show 2 ≤ sizeLine; decide), fun q1 H6 n6 s6 f1 => ⟨_, rfl, _, rfl, (by show 2 ≤ sizeLine; decide), fun q2 H7 n7 s7 f2 => ⟨_, rfl, _, rfl, (by show 2 ≤ sizeLine; decide), fun q3 H8 n8 s8 f3 => ⟨(by show 3 ≤ sizeLine; decide), fun t3 H9 n9 s9 e9 => ⟨t3, rfl, ⟨_, SqT.of e9⟩, fun D1 hD1 => ?_⟩⟩⟩⟩⟩
    have pa3 : Paired (fun (q : Addr) (x : Str × Str) => H9 q = some (.tup [.str x.1, .str x.2])) [q1, q2, q3] [(a, b), (c', b), (c', d)] := .cons (s9 _ _ (s8 _ _ (s7 _ _ f1))) (.cons (s9 _ _ (s8 _ _ f2)) (.cons (s9 _ _ f3) .nil))
    have e9 : H9 t3 = some (.tup ([q1, q2, q3].map V.ref)) := e9
    have pn3 : ∀ x ∈ [(a, b), (c', b), (c', d)], x.1.length ≤ 12 ∧ x.2.length ≤ 12 := fun x hx => by
      simp only [List.mem_cons, List.not_mem_nil, or_false] at hx
      rcases hx with rfl | rfl | rfl
      · exact ⟨na, nb⟩
      · exact ⟨nc, nb⟩
      · exact ⟨nc, nd⟩
    have hl3 : ([(a, b), (c', b), (c', d)].map fun x => hL x.1 k x.2 m) = [hL a k b m, hL c' k b m, hL c' k d m] := rfl
    have ln3 : [(a, b), (c', b), (c', d)].length = 3 := rfl
    have lq3 : [q1, q2, q3].length = 3 := rfl
    generalize [(a, b), (c', b), (c', d)] = prs at pa3 pn3 hl3 ln3
    generalize [q1, q2, q3] = q123 at pa3 e9 lq3
    refine lc_grow (n := prs.length) hD1 (fun i acc Hc => acc = linesV ((prs.take i).map fun x => hL x.1 k x.2 m)) (fun _ _ _ _ h _ => h) (fun _ _ => rfl)
      (fun i Hc hi s => ⟨_, V.ref (q123[i]'(by omega)), SqT.of (s _ _ e9), by rw [List.getElem?_map, List.getElem?_eq_getElem (by omega)]; rfl⟩) (fun Hc s => ⟨_, SqT.of (s _ _ e9), by rw [List.length_map]; omega⟩) (small1000 (by omega)) (fun i acc Hc F G' hF hG' hi s hacc hp x Hc' yl => ?_) (fun acc HA sA hacc hp => ?_)
    · obtain ⟨eH, ev⟩ := yl
      subst eH
      have hiq : i < q123.length := by omega
      have ev := ev _ (SqT.of (s _ _ e9))
      rw [List.getElem?_map, List.getElem?_eq_getElem hiq] at ev
      cases ev
      have g := paired_get pa3 (List.getElem?_eq_getElem hiq) (List.getElem?_eq_getElem hi)
      obtain ⟨nx, ny⟩ := pn3 _ (List.getElem_mem hi)
      refine ⟨_, _, rfl, SqT.of (s _ _ g), rfl, _, _, rfl, _, _, rfl, rfl, rfl, ?_⟩
      have z1 := cat wf nx
      have z2 := cat z1 wd
      have z3 := cat z2 nk
      have z4 := cat z3 wi
      have z5 := cat z4 ny
      have z6 := cat z5 wd
      refine ⟨_, rfl, _, _, rfl, rfl, cat_sz wf nx (by decide), _, _, rfl, rfl, cat_sz z1 wd (by decide), _, rfl, _, _, rfl, rfl, cat_sz z2 nk (by decide), _, _, rfl, rfl, cat_sz z3 wi (by decide), _, rfl, _, _, rfl, rfl, cat_sz z4 ny (by decide), _, _, rfl, rfl, cat_sz z5 wd (by decide), _, rfl, _, _, rfl, rfl, cat_sz z6 nm (by decide), hF _ _ (Same.refl _) ?_⟩
      rw [hp, List.take_add_one, List.getElem?_eq_getElem hi, List.map_append, t_link]
      unfold linesV
      rw [List.map_append]; rfl
    rw [List.take_length, hl3] at hp
    subst hp
    have s1A : Same H1 HA := ((((s15.trans s6).trans s7).trans s8).trans s9).trans sA
    have s5A : Same H5 HA := (((s6.trans s7).trans s8).trans s9).trans sA
    -- single, asked
    obtain ⟨k1, k2, k3, k4, k5, k6, k7⟩ := szL na nk nd nm
    have j1 := szU wS nb nk
    have j2 := szU wS nd nk
    refine ⟨_, rfl, _, _, rfl, rfl, j1.1, _, rfl, _, _, rfl, rfl, j2.1, (by show 2 ≤ sizeLine; decide), fun l12 HB nB sB eB => ⟨_, rfl, _, _, rfl, rfl, k1, _, _, rfl, rfl, k2, _, rfl, _, _, rfl, rfl, k3, _, _, rfl, rfl, k4, _, rfl, _, _, rfl, rfl, k5, _, _, rfl, rfl, k6, _, rfl, _, _, rfl, rfl, k7, ⟨_, _, rfl, ?_⟩⟩⟩
    rw [t_link]
    have eB : HB l12 = some (.lst (linesV [hS b, hS d])) := by
      rw [line_single, line_single] at eB; exact eB
    have e1B := sB _ _ hacc
    -- the rows
    refine ⟨_, rfl, _, rfl, cat2 e1B eB (by simp) (by simp) fun a1 HC nC sC eC => ⟨(by show 2 ≤ sizeLine; decide), fun r1 HD nD sD eD => ?_⟩⟩
    have sBD := sC.trans sD
    refine ⟨_, rfl, _, rfl, cat2 (sBD _ _ e1B) (sBD _ _ eB) (by simp) (by simp) fun a2 HE nE sE eE => ⟨_, rfl, _, _, rfl, rfl, (szU wF nd nk).1, (by show 1 ≤ sizeLine; decide), fun l1 HF nF sF eF => ?_⟩⟩
    have eF : HF l1 = some (.lst (linesV [hF d])) := by
      rw [line_filled] at eF; exact eF
    refine cat2 (sF _ _ eE) eF (by simp) (by simp) fun a3 HG nG sG eG => ⟨(by show 2 ≤ sizeLine; decide), fun r2 HI nI sI eI => ?_⟩
    have sBI := (((sBD.trans sE).trans sF).trans sG).trans sI
    refine ⟨_, rfl, _, rfl, cat2 (sBI _ _ e1B) (sBI _ _ eB) (by simp) (by simp) fun a4 HJ nJ sJ eJ => ⟨_, rfl, _, _, rfl, rfl, (szU wF nc nk).1, (by show 1 ≤ sizeLine; decide), fun l2 HK nK sK eK => ?_⟩⟩
    have eK : HK l2 = some (.lst (linesV [hF c'])) := by
      rw [line_filled] at eK; exact eK
    refine cat2 (sK _ _ eJ) eK (by simp) (by simp) fun a5 HL nL sL eL => ⟨(by show 2 ≤ sizeLine; decide), fun r3 HM nM sM eM => ⟨(by show 3 ≤ sizeLine; decide), fun W HN nN sN eN => ?_⟩⟩
    have sBN := ((((sBI.trans sJ).trans sK).trans sL).trans sM).trans sN
    have row1 : HandRow HM r1 ([hL a k b m, hL c' k b m, hL c' k d m] ++ [hS b, hS d], false) := HandRow.same (H := HD) ⟨a1, eD, sD _ _ eC⟩ (((((((sE.trans sF).trans sG).trans sI).trans sJ).trans sK).trans sL).trans sM)
    have row2 : HandRow HM r2 ([hL a k b m, hL c' k b m, hL c' k d m] ++ [hS b, hS d] ++ [hF d], false) := HandRow.same (H := HI) ⟨a3, eI, sI _ _ eG⟩ (((sJ.trans sK).trans sL).trans sM)
    have row3 : HandRow HM r3 ([hL a k b m, hL c' k b m, hL c' k d m] ++ [hS b, hS d] ++ [hF c'], true) := ⟨a5, eM, sM _ _ eL⟩
    have cut : ∀ (fs : List Fact) (z : Int) (j : Nat), z = (j : Int) → j ≤ 100 → cutV (linesV fs) none (some z) = linesV (fs.take j) := fun fs z j e hj => by
      unfold linesV
      rw [List.map_take]
      exact cut_to _ e (by omega)
    -- the fourth
    have eW : HN W = some (.lst ([r1, r2, r3].map V.ref)) := eN
    refine ⟨_, rfl, .inl ⟨rfl, _, SqL.of eW⟩, _, rfl, 2, rfl, D1, _, rfl, SqL.of (sBN _ _ e1B), fun x1 HO nO sO eO => ?_⟩
    have eO : HO x1 = some (.lst (linesV [hL a k b m, hL c' k b m])) := by
      rw [cut _ 2 2 rfl (by decide)] at eO; exact eO
    refine ⟨_, rfl, cat2 eO (sO _ _ (sBN _ _ eB)) (by simp) (by simp) fun x2 HP nP sP eP => ⟨_, rfl, _, _, rfl, rfl, (szU wF nc nk).1, (by show 1 ≤ sizeLine; decide), fun x3 HR nR sR eR => ?_⟩⟩
    have eR : HR x3 = some (.lst (linesV [hF c'])) := by
      rw [line_filled] at eR; exact eR
    refine cat2 (sR _ _ eP) eR (by simp) (by simp) fun x4 HS nS sS2 eS2 => ⟨(by show 2 ≤ sizeLine; decide), fun r4 HT nT4 sT eT => ?_⟩
    have sNT := (((sO.trans sP).trans sR).trans sS2).trans sT
    have eW4 := sNT _ _ eW
    refine ⟨W, _, _, rfl, rfl, eW4, small1000 (by simp), fun HU bU eU => ?_⟩
    have noW : ∀ {q : Addr} {xs : List V}, HT q = some (.tup xs) → q ≠ W := fun e z => by rw [z, eW4] at e; cases e
    have eU : HU W = some (.lst ([r1, r2, r3, r4].map V.ref)) := eU
    have r4W : r4 ≠ W := noW eT
    have x4W : x4 ≠ W := fun z => by
      have z2 := sR _ _ (sP _ _ (sO _ _ eW))
      rw [← z, nS] at z2; cases z2
    -- the fifth
    have kBU : ∀ {q : Addr} {xs : List V}, HB q = some (.lst xs) → HU q = some (.lst xs) := fun {q xs} e => bU _ _ (fun z => by
      have z2 := (((((sBI.trans sJ).trans sK).trans sL).trans sM)) _ _ e
      rw [z, nN] at z2; cases z2) (sNT _ _ (sBN _ _ e))
    refine ⟨_, rfl, .inl ⟨rfl, _, SqL.of eU⟩, _, rfl, 1, rfl, D1, _, rfl, SqL.of (kBU e1B), fun y1 HV nV sV eV => ?_⟩
    have eV : HV y1 = some (.lst (linesV [hL a k b m])) := by
      rw [cut _ 1 1 rfl (by decide)] at eV; exact eV
    have g1 := szU wU na nk
    refine ⟨_, rfl, _, _, rfl, rfl, j1.1, _, rfl, _, _, rfl, rfl, g1.1, _, _, rfl, rfl, g1.2.1, _, rfl, _, _, rfl, rfl, g1.2.2, (by show 2 ≤ sizeLine; decide), fun y2 HW nW sW eW5 => ?_⟩
    have eW5 : HW y2 = some (.lst (linesV [hS b, hU a k])) := by
      rw [line_single, t_uniq] at eW5; exact eW5
    refine cat2 (sW _ _ eV) eW5 (by simp) (by simp) fun y3 HX nX sX eX => ⟨(by show 2 ≤ sizeLine; decide), fun r5 HY nY sY eY => ?_⟩
    have sUY := ((sV.trans sW).trans sX).trans sY
    have eWY := sUY _ _ eU
    refine ⟨W, _, _, rfl, rfl, eWY, small1000 (by simp), fun HZ bZ eZ => ?_⟩
    have eZ : HZ W = some (.lst ([r1, r2, r3, r4, r5].map V.ref)) := eZ
    have kMZ : ∀ q o, q ≠ W → HM q = some o → HZ q = some o := fun q o n e => bZ _ _ n (sUY _ _ (bU _ _ n (sNT _ _ (sN _ _ e))))
    have rows : Paired (HandRow HZ) [r1, r2, r3, r4, r5] [([hL a k b m, hL c' k b m, hL c' k d m] ++ [hS b, hS d], false), ([hL a k b m, hL c' k b m, hL c' k d m] ++ [hS b, hS d] ++ [hF d], false), ([hL a k b m, hL c' k b m, hL c' k d m] ++ [hS b, hS d] ++ [hF c'], true), ([hL a k b m, hL c' k b m] ++ [hS b, hS d] ++ [hF c'], false), ([hL a k b m] ++ [hS b, hU a k], false)] := by
      refine .cons (row1.over nN kMZ) (.cons (row2.over nN kMZ) (.cons (row3.over nN kMZ) (.cons ?_ (.cons ?_ .nil))))
      · exact ⟨x4, bZ _ _ r4W (sUY _ _ (bU _ _ r4W eT)), bZ _ _ x4W (sUY _ _ (bU _ _ x4W (sT _ _ eS2)))⟩
      · refine ⟨y3, bZ _ _ (fun z => ?_) eY, bZ _ _ (fun z => ?_) (sY _ _ eX)⟩
        · rw [z, eWY] at eY; cases eY
        · have z2 := sW _ _ (sV _ _ eU)
          rw [← z, nX] at z2; cases z2
    -- what is due
    have UL : ∀ {x y : Str}, (x = a ∧ y = b) ∨ (x = c' ∧ y = b) ∨ (x = c' ∧ y = d) → Fct tabs (hL x k y m) ∧ UpF [a, c', b, d] (hL x k y m) := fun {x y} h => by
      have no : [a, c', b, d].Nodup := by simp [hab, hac, had, Ne.symm hbc, hcd, hbd]
      have ra : rk [a, c', b, d] a = 0 := rk_get no rfl
      have rc : rk [a, c', b, d] c' = 1 := rk_get no rfl
      have rb : rk [a, c', b, d] b = 2 := rk_get no rfl
      have rd : rk [a, c', b, d] d = 3 := rk_get no rfl
      have up : ∀ {x y : Str}, rk [a, c', b, d] x < rk [a, c', b, d] y → UpF [a, c', b, d] (hL x k y m) := fun h q hq => by
        rw [show linkOf (hL _ k _ m) = [(_, _)] from link_of] at hq
        rw [List.mem_singleton.mp hq]; exact h
      rcases h with ⟨rfl, rfl⟩ | ⟨rfl, rfl⟩ | ⟨rfl, rfl⟩
      · exact ⟨.found (vc (by simp)).1 (vc (by simp)).2, up (by rw [ra, rb]; decide)⟩
      · exact ⟨.found (vc (by simp)).1 (vc (by simp)).2, up (by rw [rc, rb]; decide)⟩
      · exact ⟨.found (vc (by simp)).1 (vc (by simp)).2, up (by rw [rc, rd]; decide)⟩
    have ok_T : ∀ {t : Str}, t ∈ [a, b, c', d] → (Fct tabs (hS t) ∧ UpF [a, c', b, d] (hS t)) ∧ Fct tabs (hF t) ∧ UpF [a, c', b, d] (hF t) := fun h => ⟨⟨.table (vt h) (.inl rfl), upf_none (by decide +kernel)⟩, .table (vt h) (.inr rfl), upf_none (by decide +kernel)⟩
    have ok_U : Fct tabs (hU a k) ∧ UpF [a, c', b, d] (hU a k) := ⟨.column (x := (a, k)) (vc (by simp)).1 (.inl rfl), upf_none (by decide +kernel)⟩
    have app : ∀ {xs ys : List Fact}, (∀ f ∈ xs, Fct tabs f ∧ UpF [a, c', b, d] f) → (∀ f ∈ ys, Fct tabs f ∧ UpF [a, c', b, d] f) → ∀ f ∈ xs ++ ys, Fct tabs f ∧ UpF [a, c', b, d] f := fun h1 h2 f hf => (List.mem_append.mp hf).elim (h1 f) (h2 f)
    have A1 : ∀ f ∈ [hL a k b m], Fct tabs f ∧ UpF [a, c', b, d] f := fun f hf => by rw [List.mem_singleton.mp hf]; exact UL (.inl ⟨rfl, rfl⟩)
    have A2 : ∀ f ∈ [hL a k b m, hL c' k b m], Fct tabs f ∧ UpF [a, c', b, d] f := fun f hf => by
      simp only [List.mem_cons, List.not_mem_nil, or_false] at hf
      rcases hf with rfl | rfl
      · exact UL (.inl ⟨rfl, rfl⟩)
      · exact UL (.inr (.inl ⟨rfl, rfl⟩))
    have A3 : ∀ f ∈ [hL a k b m, hL c' k b m, hL c' k d m], Fct tabs f ∧ UpF [a, c', b, d] f := fun f hf => by
      simp only [List.mem_cons, List.not_mem_nil, or_false] at hf
      rcases hf with rfl | rfl | rfl
      · exact UL (.inl ⟨rfl, rfl⟩)
      · exact UL (.inr (.inl ⟨rfl, rfl⟩))
      · exact UL (.inr (.inr ⟨rfl, rfl⟩))
    have S2 : ∀ f ∈ [hS b, hS d], Fct tabs f ∧ UpF [a, c', b, d] f := fun f hf => by
      simp only [List.mem_cons, List.not_mem_nil, or_false] at hf
      rcases hf with rfl | rfl
      · exact (ok_T (by simp)).1
      · exact (ok_T (by simp)).1
    have Fd : ∀ f ∈ [hF d], Fct tabs f ∧ UpF [a, c', b, d] f := fun f hf => by rw [List.mem_singleton.mp hf]; exact (ok_T (by simp)).2
    have Fc : ∀ f ∈ [hF c'], Fct tabs f ∧ UpF [a, c', b, d] f := fun f hf => by rw [List.mem_singleton.mp hf]; exact (ok_T (by simp)).2
    have U2 : ∀ f ∈ [hS b, hU a k], Fct tabs f ∧ UpF [a, c', b, d] f := fun f hf => by
      simp only [List.mem_cons, List.not_mem_nil, or_false] at hf
      rcases hf with rfl | rfl
      · exact (ok_T (by simp)).1
      · exact ok_U
    have B2 : ∀ f ∈ [hS b, hF a], Fct tabs f ∧ UpF [a, c', b, d] f := fun f hf => by
      simp only [List.mem_cons, List.not_mem_nil, or_false] at hf
      rcases hf with rfl | rfl
      · exact (ok_T (by simp)).1
      · exact (ok_T (by simp)).2
    have cS : ∀ {x y : Str}, colL [hS x, hS y] = [] := fun {x y} => by unfold colL; simp only [List.filterMap_cons, List.filterMap_nil, lc_S]
    have cSF : ∀ {x y z : Str}, colL ([hS x, hS y] ++ [hF z]) = [] := fun {x y z} => by unfold colL; simp only [List.cons_append, List.nil_append, List.filterMap_cons, List.filterMap_nil, lc_S, lc_F]
    have cSU : ∀ {x y z : Str}, colL [hS x, hU y z] = [] := fun {x y z} => by unfold colL; simp only [List.filterMap_cons, List.filterMap_nil, lc_S, lc_U]
    have rowsOk : ∀ r ∈ [([hL a k b m, hL c' k b m, hL c' k d m] ++ [hS b, hS d], false), ([hL a k b m, hL c' k b m, hL c' k d m] ++ [hS b, hS d] ++ [hF d], false), ([hL a k b m, hL c' k b m, hL c' k d m] ++ [hS b, hS d] ++ [hF c'], true), ([hL a k b m, hL c' k b m] ++ [hS b, hS d] ++ [hF c'], false), ([hL a k b m] ++ [hS b, hU a k], false)],
        (∀ f ∈ r.1, Fct tabs f ∧ UpF [a, c', b, d] f) ∧ r.1.length ≤ 10 ∧ (Follows r.1 (hL a k d m) ↔ r.2 = true) := fun r hr => by
      simp only [List.mem_cons, List.not_mem_nil, or_false] at hr
      rcases hr with rfl | rfl | rfl | rfl | rfl
      · refine ⟨app A3 S2, by simp, fun h => absurd h (q_1 _ cS hab hac (Ne.symm hbc) had hbd (fun f hf e => ?_) hcd), fun h => by cases h⟩
        simp only [List.mem_cons, List.not_mem_nil, or_false] at hf
        rcases hf with rfl | rfl <;> exact absurd e n_SF
      · refine ⟨app (app A3 S2) Fd, by simp, fun h => ?_, fun h => by cases h⟩
        have h : Follows ([hL a k b m, hL c' k b m, hL c' k d m] ++ [hS b, hS d] ++ [hF d]) (hL a k d m) := h
        rw [List.append_assoc] at h
        refine absurd h (q_1 _ cSF hab hac (Ne.symm hbc) had hbd (fun f hf e => ?_) hcd)
        simp only [List.cons_append, List.nil_append, List.mem_cons, List.not_mem_nil, or_false] at hf
        rcases hf with rfl | rfl | rfl
        · exact absurd e n_SF
        · exact absurd e n_SF
        · rfl
      · refine ⟨app (app A3 S2) Fc, by simp, fun _ => rfl, fun _ => ?_⟩
        show Follows ([hL a k b m, hL c' k b m, hL c' k d m] ++ [hS b, hS d] ++ [hF c']) (hL a k d m)
        rw [List.append_assoc]
        exact q_3 _ (by simp) (by simp)
      · refine ⟨app (app A2 S2) Fc, by simp, fun h => ?_, fun h => by cases h⟩
        have h : Follows ([hL a k b m, hL c' k b m] ++ [hS b, hS d] ++ [hF c']) (hL a k d m) := h
        rw [List.append_assoc] at h
        exact absurd h (q_4 _ cSF had hbd hcd)
      · exact ⟨app A1 U2, by simp, fun h => absurd h (q_5 _ cSU had hbd), fun h => by cases h⟩
    have askF : Fct tabs (hL a k d m) := .found (vc (by simp)).1 (vc (by simp)).2
    have l5 : [r1, r2, r3, r4, r5].length = 5 := rfl
    generalize [([hL a k b m, hL c' k b m, hL c' k d m] ++ [hS b, hS d], false), ([hL a k b m, hL c' k b m, hL c' k d m] ++ [hS b, hS d] ++ [hF d], false), ([hL a k b m, hL c' k b m, hL c' k d m] ++ [hS b, hS d] ++ [hF c'], true), ([hL a k b m, hL c' k b m] ++ [hS b, hS d] ++ [hF c'], false), ([hL a k b m] ++ [hS b, hU a k], false)] = rs at rows rowsOk
    generalize [r1, r2, r3, r4, r5] = qs at rows eZ l5
    have rl := Paired.length rows
    have kHZ : ∀ {q : Addr} {o : L2.HO}, H1 q = some o → HZ q = some o := fun {q o} e => bZ _ _ (fun z => by
      have z2 := ((((((s1A.trans sB).trans sBI).trans sJ).trans sK).trans sL).trans sM) _ _ e
      rw [z, nN] at z2; cases z2) (sUY _ _ (bU _ _ (fun z => by
      have z2 := ((((((s1A.trans sB).trans sBI).trans sJ).trans sK).trans sL).trans sM) _ _ e
      rw [z, nN] at z2; cases z2) (sNT _ _ (sBN _ _ (sB _ _ (s1A _ _ e))))))
    have k5Z : ∀ {q : Addr} {o : L2.HO}, H5 q = some o → HZ q = some o := fun {q o} e => bZ _ _ (fun z => by
      have z2 := ((((((s5A.trans sB).trans sBI).trans sJ).trans sK).trans sL).trans sM) _ _ e
      rw [z, nN] at z2; cases z2) (sUY _ _ (bU _ _ (fun z => by
      have z2 := ((((((s5A.trans sB).trans sBI).trans sJ).trans sK).trans sL).trans sM) _ _ e
      rw [z, nN] at z2; cases z2) (sNT _ _ (sBN _ _ (sB _ _ (s5A _ _ e))))))
    have hSZ : SchemaAt T.C_Schema HZ sa tabs := hSc.same fun q o e => k5Z e
    have ttZ : ∀ {q : Addr}, H q = some (TabX q) → HZ q = some (TabX q) := fun e => kHZ (b1 _ _ (nT e) e)
    have reprs : ∀ (b : Bool), ∃ d, (∀ {H : Hp}, Dp K H (.str (if b then "True" else "False")) d) ∧ SeqAt.shaped d = true ∧ PyData.eqv d d = true := fun b => eqv_str1 (by cases b <;> decide +kernel)
    refine ⟨_, rfl, W, rfl, ⟨_, SqL.of eZ⟩, ?_⟩
    refine for_list (xs := qs.map V.ref) (fun i σ H' => ∃ v15 v16 : Option V, σ = [some (.ref p), some (.str a), some (.str b), some (.str c'), some (.str d), some (.str k), some (.str m), some (.ref sa), none, some (.ref D1), none, none, some (.ref l12), some (.str (lineT (hL a k d m))), some (.ref W), v15, v16, none] ∧ Same HZ H') ⟨none, none, rfl, Same.refl _⟩ (fun i σ H' _ ⟨_, _, _, s⟩ => SqL.of (s _ _ eZ)) ?_ ?_
    · rintro i x σ Ha hx ⟨v15, v16, rfl, sZ⟩
      have hi : i < qs.length := by
        rcases Nat.lt_or_ge i qs.length with h | h
        · exact h
        · rw [List.getElem?_eq_none (by rw [List.length_map]; omega)] at hx; cases hx
      rw [List.getElem?_map, List.getElem?_eq_getElem hi] at hx
      cases hx
      have hir : i < rs.length := by omega
      obtain ⟨l, g1, g2⟩ := paired_get rows (List.getElem?_eq_getElem hi) (List.getElem?_eq_getElem hir)
      obtain ⟨o1, o2, o3⟩ := rowsOk _ (List.getElem_mem hir)
      generalize rs[i] = r at g1 g2 o1 o2 o3
      refine ⟨_, _, rfl, SqT.of (sZ _ _ g1), rfl, _, _, rfl, _, _, rfl, rfl, ?_⟩
      refine ⟨_, rfl, _, rfl, ?_⟩
      intro f fdx nf nfdx fne
      have sG : Same Ha (upd (upd Ha fdx (.own f)) f (.ins T.C_Facts fdx [])) := Same.new (Same.new (Same.refl _) nfdx) (by rw [upd_ne (Ne.symm fne)]; exact nf)
      have eG : (upd (upd Ha fdx (.own f)) f (.ins T.C_Facts fdx [])) f = some (.ins T.C_Facts fdx []) := upd_same
      generalize upd (upd Ha fdx (.own f)) f (.ins T.C_Facts fdx []) = Hg at sG eG
      have sZG := sZ.trans sG
      refine build D o1 (by omega) eG (hSZ.same sZG) (sZG _ _ g2) (sZG _ _ (ttZ hP3)) fun Hb bb fa => ⟨rfl, ?_⟩
      have sab : Same Ha Hb := fun q o e => bb _ _ (fun z => by rw [z, nf] at e; cases e) (sG _ _ e)
      have sZb := sZ.trans sab
      have fa' := fa
      obtain ⟨dx, df, sc, of, kvs, f1, _⟩ := fa'
      refine ⟨f, dx, _, rfl, f1, rfl, _, rfl, f, _, tabs, r.1.map lineT, rfl, fa, okn_of D, (ask_len D askF).1, (ask_len D askF).2, few_lines (by omega), sZb _ _ (ttZ hPC), sZb _ _ (ttZ hPF), fun g' bo Hc eg sbc hb => ?_, fun _ _ e => absurd e (ask_no D askF)⟩
      have hb := ask_yes D (fun g hg => (o1 g hg).1) askF eg hb
      have eb : bo = r.2 := by
        have z := hb.trans o3
        cases bo <;> cases h : r.2
        · rfl
        · rw [h] at z; exact absurd (z.mpr rfl) (by decide)
        · rw [h] at z; exact absurd (z.mp rfl) (by decide)
        · rfl
      obtain ⟨d0, d1, d2, d3⟩ := reprs bo
      refine ⟨bo, rfl, _, rfl, r.2, rfl, d0, d0, d1, by rw [← eb]; exact d1, d2, d2, false, by rw [d3]; rfl, iteF ⟨_, _, rfl, sZb.trans sbc⟩⟩
    · rintro σ Ha ⟨v15, v16, rfl, sZ⟩
      have kBZ : ∀ {q : Addr} {xs : List V}, HB q = some (.lst xs) → HZ q = some (.lst xs) := fun {q xs} e => bZ _ _ (fun z => by
        have z2 := (((((sBI.trans sJ).trans sK).trans sL).trans sM)) _ _ e
        rw [z, nN] at z2; cases z2) (sUY _ _ (kBU e))
      have mkF : ∀ {H0 : Hp} {f fdx : Addr}, H0 f = none → H0 fdx = none → f ≠ fdx → Same H0 (upd (upd H0 fdx (.own f)) f (.ins T.C_Facts fdx [])) := fun nf nfdx fne => Same.new (Same.new (Same.refl _) nfdx) (by rw [upd_ne fne]; exact nf)
      have eD1 : Ha D1 = some (.lst (linesV [hL a k b m, hL c' k b m, hL c' k d m])) := sZ _ _ (kBZ e1B)
      -- with unique
      refine ⟨_, rfl, _, rfl, 1, rfl, D1, _, rfl, SqL.of eD1, fun y1 Hb nyb sb eb => ?_⟩
      have eb : Hb y1 = some (.lst (linesV [hL a k b m])) := by
        rw [cut _ 1 1 rfl (by decide)] at eb; exact eb
      refine ⟨_, rfl, _, _, rfl, rfl, j1.1, _, rfl, _, _, rfl, rfl, g1.1, _, _, rfl, rfl, g1.2.1, _, rfl, _, _, rfl, rfl, g1.2.2, (by show 2 ≤ sizeLine; decide), fun y2 Hc nc' sc ec => ?_⟩
      have ec : Hc y2 = some (.lst (linesV [hS b, hU a k])) := by
        rw [line_single, t_uniq] at ec; exact ec
      refine cat2 (sc _ _ eb) ec (by simp) (by simp) fun y3 Hd nd' sd ed => ?_
      intro f fdx nf nfdx fne
      have sG := mkF nf nfdx (Ne.symm fne)
      have eG : (upd (upd Hd fdx (.own f)) f (.ins T.C_Facts fdx [])) f = some (.ins T.C_Facts fdx []) := upd_same
      generalize upd (upd Hd fdx (.own f)) f (.ins T.C_Facts fdx []) = He at sG eG
      have sZd := ((sZ.trans sb).trans sc).trans sd
      have sZe := sZd.trans sG
      refine build D (app A1 U2) (by simp) eG (hSZ.same sZe) (sG _ _ ed) (sZe _ _ (ttZ hP3)) fun Hf bf fa => ⟨rfl, ?_⟩
      have sdf : Same Hd Hf := fun q o e => bf _ _ (fun z => by rw [z, nf] at e; cases e) (sG _ _ e)
      have sZf := sZd.trans sdf
      have fU : ∀ g ∈ [hL a k b m] ++ [hS b, hU a k], Fct tabs g := fun g hg => (app A1 U2 g hg).1
      have fSa : Fct tabs (hS a) := (ok_T (by simp)).1.1
      have fOm : Fct tabs (hO a m) := .column (x := (a, m)) (vc (by simp)).2 (.inr rfl)
      have fOk : Fct tabs (hO a k) := .column (x := (a, k)) (vc (by simp)).1 (.inr rfl)
      have fLb : Fct tabs (hL b m a k) := .found (x := (b, m)) (y := (a, k)) (vc (by simp)).2 (vc (by simp)).1
      refine ⟨fun σ' H' => ∃ v15 v16 v17 : Option V, σ' = [some (.ref p), some (.str a), some (.str b), some (.str c'), some (.str d), some (.str k), some (.str m), some (.ref sa), none, some (.ref D1), none, none, some (.ref l12), some (.str (lineT (hL a k d m))), some (.ref W), v15, v16, v17] ∧ Same HZ H', ?_, ?_⟩
      · have fa' := fa
        obtain ⟨dx, df, sc', of, kvs, f1, _⟩ := fa'
        refine ⟨_, rfl, f, dx, _, rfl, f1, rfl, _, rfl, _, _, rfl, rfl, (szU wS na nk).1, f, lineT (hS a), tabs, _, congrArg (fun z => [V.ref f, V.str z]) line_single, fa, okn_of D, (ask_len D fSa).1, (ask_len D fSa).2, few_lines (by simp), sZf _ _ (ttZ hPC), sZf _ _ (ttZ hPF), fun g' bo Hg eg sg hb => ?_, fun _ _ e => absurd e (ask_no D fSa)⟩
        have hb := (ask_yes D fU fSa eg hb).mpr q_6
        subst hb
        refine ⟨true, true, rfl, rfl, false, rfl, iteF ?_⟩
        have g2 := szU wO na nm
        have fa2 := fa.same sg
        have f12 := sg _ _ f1
        refine ⟨_, rfl, f, dx, _, rfl, f12, rfl, _, rfl, _, _, rfl, rfl, g2.1, _, _, rfl, rfl, g2.2.1, _, rfl, _, _, rfl, rfl, g2.2.2, f, lineT (hO a m), tabs, _, congrArg (fun z => [V.ref f, V.str z]) t_sort, fa2, okn_of D, (ask_len D fOm).1, (ask_len D fOm).2, few_lines (by simp), sg _ _ (sZf _ _ (ttZ hPC)), sg _ _ (sZf _ _ (ttZ hPF)), fun g' bo Hh eg sh hb => ?_, fun _ _ e => absurd e (ask_no D fOm)⟩
        have hb := (ask_yes D fU fOm eg hb).mpr q_6s
        subst hb
        exact ⟨true, true, rfl, rfl, false, rfl, iteF ⟨_, _, _, rfl, (sZf.trans sg).trans sh⟩⟩
      · rintro σ2 Hj ⟨v15, v16, v17, rfl, sZ2⟩
        have eD1 : Hj D1 = some (.lst (linesV [hL a k b m, hL c' k b m, hL c' k d m])) := sZ2 _ _ (kBZ e1B)
        have g3 := szU wF na nk
        refine ⟨_, rfl, _, rfl, 1, rfl, D1, _, rfl, SqL.of eD1, fun y1 Hb nyb sb eb => ?_⟩
        have eb : Hb y1 = some (.lst (linesV [hL a k b m])) := by
          rw [cut _ 1 1 rfl (by decide)] at eb; exact eb
        refine ⟨_, rfl, _, _, rfl, rfl, j1.1, _, rfl, _, _, rfl, rfl, g3.1, (by show 2 ≤ sizeLine; decide), fun y2 Hc nc' sc ec => ?_⟩
        have ec : Hc y2 = some (.lst (linesV [hS b, hF a])) := by
          rw [line_single, line_filled] at ec; exact ec
        refine cat2 (sc _ _ eb) ec (by simp) (by simp) fun y3 Hd nd' sd ed => ?_
        intro f fdx nf nfdx fne
        have sG := mkF nf nfdx (Ne.symm fne)
        have eG : (upd (upd Hd fdx (.own f)) f (.ins T.C_Facts fdx [])) f = some (.ins T.C_Facts fdx []) := upd_same
        generalize upd (upd Hd fdx (.own f)) f (.ins T.C_Facts fdx []) = He at sG eG
        have sZd := ((sZ2.trans sb).trans sc).trans sd
        have sZe := sZd.trans sG
        refine build D (app A1 B2) (by simp) eG (hSZ.same sZe) (sG _ _ ed) (sZe _ _ (ttZ hP3)) fun Hf bf fa => ⟨rfl, ?_⟩
        have sdf : Same Hd Hf := fun q o e => bf _ _ (fun z => by rw [z, nf] at e; cases e) (sG _ _ e)
        have sZf := sZd.trans sdf
        have fU : ∀ g ∈ [hL a k b m] ++ [hS b, hF a], Fct tabs g := fun g hg => (app A1 B2 g hg).1
        have fa' := fa
        obtain ⟨dx, df, sc', of, kvs, f1, _⟩ := fa'
        obtain ⟨k1, k2, k3, k4, k5, k6, k7⟩ := szL nb nm na nk
        refine ⟨_, rfl, f, dx, _, rfl, f1, rfl, _, rfl, _, _, rfl, rfl, k1, _, _, rfl, rfl, k2, _, rfl, _, _, rfl, rfl, k3, _, _, rfl, rfl, k4, _, rfl, _, _, rfl, rfl, k5, _, _, rfl, rfl, k6, _, rfl, _, _, rfl, rfl, k7, f, lineT (hL b m a k), tabs, _, congrArg (fun z => [V.ref f, V.str z]) t_link, fa, okn_of D, (ask_len D fLb).1, (ask_len D fLb).2, few_lines (by simp), sZf _ _ (ttZ hPC), sZf _ _ (ttZ hPF), fun g' bo Hg eg sg hb => ?_, fun _ _ e => absurd e (ask_no D fLb)⟩
        have hb := (ask_yes D fU fLb eg hb).mpr q_7
        subst hb
        refine ⟨true, true, rfl, rfl, false, rfl, iteF ?_⟩
        have sZg := sZf.trans sg
        refine ⟨_, rfl, f, dx, _, rfl, sg _ _ f1, rfl, _, rfl, _, _, rfl, rfl, (szU wS na nk).1, f, lineT (hS a), tabs, _, congrArg (fun z => [V.ref f, V.str z]) line_single, fa.same sg, okn_of D, (ask_len D fSa).1, (ask_len D fSa).2, few_lines (by simp), sZg _ _ (ttZ hPC), sZg _ _ (ttZ hPF), fun g' bo Hh eg sh hb => ?_, fun _ _ e => absurd e (ask_no D fSa)⟩
        have hb := ask_yes D fU fSa eg hb
        have hb : bo = false := by
          cases bo with
          | false => rfl
          | true => exact absurd (hb.mp rfl) (q_7n hab)
        subst hb
        have g4 := szU wO na nk
        have sZh := sZg.trans sh
        refine ⟨false, false, rfl, rfl, true, rfl, iteT ⟨_, rfl, f, dx, _, rfl, sh _ _ (sg _ _ f1), rfl, _, rfl, _, _, rfl, rfl, g4.1, _, _, rfl, rfl, g4.2.1, _, rfl, _, _, rfl, rfl, g4.2.2, f, lineT (hO a k), tabs, _, congrArg (fun z => [V.ref f, V.str z]) t_sort, (fa.same sg).same sh, okn_of D, (ask_len D fOk).1, (ask_len D fOk).2, few_lines (by simp), sZh _ _ (ttZ hPC), sZh _ _ (ttZ hPF), fun g' bo Hk eg sk hb => ?_, fun _ _ e => absurd e (ask_no D fOk)⟩⟩
        have hb := (ask_yes D fU fOk eg hb).mpr q_7s
        subst hb
        exact ⟨true, true, rfl, rfl, kk Hk fun q o n e => (sZh.trans sk) _ _ (kHZ (b1 _ _ n e))⟩
end
end L2.Pf
set_option maxHeartbeats 4000000
namespace L2.Pf
open PySem PySem.Spec PyProof.Rows L2.Ev L2.Tpd L2.Seti L2.Gq L2.Enf L2.Sett L2.Itr L2.Dls L2.Own L2.Dsp L2.Dcs L2.Vls L2.Ent
theorem merge_nodup {kvs : List (Key × V)} : ∀ {acc : List (Key × V)}, ((acc ++ kvs).map (·.1)).Nodup → mergeK acc kvs = acc ++ kvs := by
  induction kvs with
  | nil => intro acc _; rw [List.append_nil]; rfl
  | cons kv r ih =>
    intro acc h
    have e : mergeK acc (kv :: r) = mergeK (putK acc kv.1 kv.2) r := rfl
    have n : kv.1 ∉ acc.map (·.1) := fun z => by
      rw [List.map_append, List.map_cons, List.nodup_append] at h
      exact h.2.2 _ z _ List.mem_cons_self rfl
    have p : putK acc kv.1 kv.2 = acc ++ [kv] := by
      unfold putK
      refine if_neg fun z => n ?_
      obtain ⟨q, hq, e⟩ := List.any_eq_true.mp z
      exact List.mem_map.mpr ⟨q, hq, of_decide_eq_true e⟩
    rw [e, p, ih (by rw [List.append_assoc]; exact h), List.append_assoc]; rfl
theorem full_good1 {tabs : Tabs} {dat : Dat} {m : Nat} (h : FullDat tabs m dat) (nd : (tabs.map (·.1)).Nodup) : tabs.find? (isBad dat) = none := by
  refine List.find?_eq_none.mpr fun t ht z => ?_
  obtain ⟨j, hj, e⟩ := List.getElem_of_mem ht
  obtain ⟨rs, r1, _, r3⟩ := h.get nd (by rw [List.getElem?_eq_getElem hj, e])
  unfold isBad at z
  rw [r1] at z
  have z : (!rs.all fun r => decide (r.length = t.2.length)) = true := z
  rw [List.all_eq_true.mpr fun r hr => decide_eq_true (r3 r hr)] at z
  cases z
theorem full_small {tabs : Tabs} {dat : Dat} {m : Nat} (h : FullDat tabs m dat) (hm : m ≤ 10) (h4 : tabs.length ≤ 4) (h3 : ∀ t ∈ tabs, t.2.length ≤ 3) : dat.length < 64 ∧ ∀ p ∈ dat, p.2.length < 64 ∧ ∀ r ∈ p.2, r.length ≤ 1000 := by
  refine ⟨by rw [h.len]; omega, fun p hp => ?_⟩
  obtain ⟨j, hj, e⟩ := List.getElem_of_mem hp
  have hjt : j < tabs.length := by rw [← h.len]; exact hj
  obtain ⟨a, b⟩ := h.2 j _ p (List.getElem?_eq_getElem hjt) (by rw [List.getElem?_eq_getElem hj, e])
  exact ⟨by omega, fun r hr => by have z := b r hr; have z2 := h3 _ (List.getElem_mem hjt); omega⟩
theorem DatAt.but {p c d : Addr} {ns : List Int} {n : Nat} {H H' : Hp} {dat : Dat} (h : DatAt H d dat) (q : Pen H p c ns n) (b : But p H H') (nd : d ≠ p) : DatAt H' d dat := by
  obtain ⟨kvs, d1, d2⟩ := h
  exact ⟨kvs, b _ _ nd d1, datF_lts d2 (Lts.but b q.pre)⟩
theorem FactsAt.but {C CS : Addr} {tabs : Tabs} {p c : Addr} {ns : List Int} {n : Nat} {H H' : Hp} {f : Addr} {ls : List Str} (h : FactsAt C CS tabs H f ls) (q : Pen H p c ns n) (b : But p H H') : FactsAt C CS tabs H' f ls := by
  obtain ⟨dx, d, sc, o, kvs, h1, h2, h3, h4, h5⟩ := h
  have n1 : ∀ {b u}, H b = some u → (∀ o, u ≠ .dK o) → H' b = some u := fun {b' u} e no => b _ _ (fun z => by
    obtain ⟨o2, e2⟩ := q.pre
    rw [z, e2] at e; cases e; exact no _ rfl) e
  refine ⟨dx, d, sc, o, kvs, n1 h1 (fun _ z => by cases z), n1 h2 (fun _ z => by cases z), h3, h4.keepT (fun _ _ e => n1 e fun _ z => by cases z), ?_⟩
  obtain ⟨dx2, d2, o2, kvs2, t2, s1, s2, s3, s4⟩ := h5
  exact ⟨dx2, d2, o2, kvs2, t2, n1 s1 (fun _ z => by cases z), n1 s2 (fun _ z => by cases z), s3.keep (fun q o xs e => n1 e fun _ z => by cases z), n1 s4 (fun _ z => by cases z)⟩
end L2.Pf
set_option maxHeartbeats 4000000
namespace L2.Pf
open PySem PySem.Spec PyProof.Rows L2.Ev L2.Tpd L2.Seti L2.Gq L2.Enf L2.Sett L2.Itr L2.Dls L2.Own L2.Dsp L2.Dcs L2.Vls L2.Ent
section
variable {P : Program} {w : World} {K : PySem.W.Frag} {mg : Str → Option Value} {base : Heap}
/-- texts that are lines of facts -/
theorem lines_are {tabs : Tabs} {gs : List Fact} (hg : ∀ f ∈ gs, Fct tabs f) : ∀ {ys : List V}, (∀ y ∈ ys, y ∈ linesV gs) → ∃ hs : List Fact, ys = linesV hs ∧ ∀ f ∈ hs, Fct tabs f
  | [], _ => ⟨[], rfl, fun f h => by cases h⟩
  | y :: r, h => by
    obtain ⟨f, hf, rfl⟩ := List.mem_map.mp (h y List.mem_cons_self)
    obtain ⟨hs, rfl, h2⟩ := lines_are hg fun z hz => h z (List.mem_cons_of_mem _ hz)
    refine ⟨f :: hs, rfl, fun g hg2 => ?_⟩
    rcases List.mem_cons.mp hg2 with rfl | hg2
    · exact hg _ hf
    · exact h2 g hg2
theorem reprs_ok (b : Bool) : ∃ d, (∀ {H : Hp}, Dp K H (.str (if b then "True" else "False")) d) ∧ SeqAt.shaped d = true ∧ PyData.eqv d d = true := eqv_str1 (by cases b <;> decide +kernel)
theorem lines_ok {tabs : Tabs} (D : DrawnTabs 4 tabs) {f : Fact} (h : Fct tabs f) : PyData.strOk (lineT f) = true := by
  have G := D.good
  have sps : ∀ {x : CP}, Col tabs x → PyData.strOk (sp x) = true := fun h => strOk_cat (strOk_cat (nm_ok (h.nm G).1) (by decide +kernel)) (nm_ok (h.nm G).2)
  cases h with
  | table ht hw => exact strOk_cat (strOk_cat (by rcases hw with rfl | rfl <;> decide +kernel) (by decide +kernel)) (nm_ok (G _ ht).name)
  | column hx hw => exact strOk_cat (strOk_cat (by rcases hw with rfl | rfl <;> decide +kernel) (by decide +kernel)) (sps hx)
  | found hx hy => exact strOk_cat (strOk_cat (strOk_cat (strOk_cat (strOk_cat (strOk_cat (by decide +kernel) (by decide +kernel)) (sps hx)) (by decide +kernel)) (by decide +kernel)) (by decide +kernel)) (sps hy)
def sp_law (P1 P2 P3 P4 P5 : Addr) (K : PySem.W.Frag) : Sp := fun vs H Q _ => ∃ (a : Addr) (ns : List Int), vs = [.ref a] ∧ SqL K H a (ns.map V.int) ∧ ns.length ≤ 63 ∧ H P1 = some (TabX P1) ∧ H P2 = some (TabX P2) ∧ H P3 = some (TabX P3) ∧ H P4 = some (TabX P4) ∧ H P5 = some (TabX P5) ∧ ∀ H', Same H H' → Q (.bl true) H'
theorem sp_law_ask (T : TX K mg) {H : Hp} {a : Addr} {ns : List Int} {E : XK} (hl : ns.length ≤ 63) (hH : ∀ b ∈ tabsOf T, H b = some (TabX b)) (hS : SqL K H a (ns.map V.int)) :
    sp_law T.P_is_name T.P_is_table_line T.P_leads_back T.P_is_constant T.P_is_filled K [.ref a] H (fun v H' => (∀ b ∈ tabsOf T, H' b = some (TabX b)) ∧ ∀ _ : Hp, v = .bl true) E :=
  ⟨a, ns, rfl, hS, hl, hH _ (by simp [tabsOf]), hH _ (by simp [tabsOf]), hH _ (by simp [tabsOf]), hH _ (by simp [tabsOf]), hH _ (by simp [tabsOf]), fun H' s => ⟨fun b hb => s _ _ (hH b hb), fun _ => rfl⟩⟩
theorem ok_law (T : TX K mg) (B : TB T base) : FnOk P w K mg base CX0 10 T.a_law T.fd_law p_law (sp_law T.P_is_name T.P_is_table_line T.P_leads_back T.P_is_constant T.P_is_filled K) := by
  refine T.F_law.ok sc_law (fun vs H Q E h => ?_) (fun cdv A outer s H vs Q E hr h => ?_)
  · obtain ⟨a, ns, rfl, _⟩ := h
    rfl
  · obtain ⟨a, ns, rfl, ha, hns, hP1, hP2, hP3, hP4, hP5, k⟩ := h
    refine ⟨_, (pss_cons (ps_set (i := 1) sc_law.nd rfl (Or.inl rfl) (pe_call (ok_begun_pen T B) (hr.mono (by decide)) rfl T.g_begun_pen T.F_begun_pen.kp T.b_begun_pen .nil pass0 (pa_cons (pv 0) pa_nil)))
  (pss_cons (ps_for PassesOwn.never rfl (pi_range1 (by rfl) T.z_range (pa_cons pe_int pa_nil)) (pg_name (i := 2) sc_law.nd rfl (Or.inl rfl)) (pss_cons (ps_set (i := 3) sc_law.nd rfl (Or.inl rfl) (pe_call (ok_linked_tables T B) (hr.mono (by decide)) rfl T.g_linked_tables T.F_linked_tables.kp T.b_linked_tables .nil pass0 (pa_cons (pv 1) pa_nil)))
  (pss_cons (ps_set (i := 4) sc_law.nd rfl (Or.inl rfl) (pe_call (ok_linked_facts T B) (hr.mono (by decide)) rfl T.g_linked_facts T.F_linked_facts.kp T.b_linked_facts .nil pass0 (pa_cons (pv 1) (pa_cons (pv 3) pa_nil))))
  (pss_cons (ps_set (i := 5) sc_law.nd rfl (Or.inl rfl) (pe_disp (pps_cons pe_str (pv 3) (pps_cons pe_str (pe_lstS pa_nil) (pps_cons pe_str (pe_lstS pa_nil) pps_nil))) (by rfl) (by rfl) (fun z => by cases z) (by decide)))
  (pss_cons (ps_set (i := 6) sc_law.nd rfl (Or.inl rfl) (pe_make T.mk_Facts (ok_Facts_init T B) (hr.mono (by decide)) (by rfl) T.g_Facts T.b_Facts_init .nil passL (pa_cons (pe_make T.mk_Schema (ok_Schema_init T B) (hr.mono (by decide)) (by rfl) T.g_Schema T.b_Schema_init .nil pass0 (pa_cons (pe_call (ok_schema_text T B) (hr.mono (by decide)) rfl T.g_schema_text T.F_schema_text.kp T.b_schema_text .nil pass0 (pa_cons (pv 3) pa_nil)) pa_nil)) (pa_cons (pv 4) pa_nil))))
  (pss_cons (ps_set (i := 7) sc_law.nd rfl (Or.inl rfl) (pe_op op_catS (pe_call (ok_some_of T B) (hr.mono (by decide)) rfl T.g_some_of T.F_some_of.kp T.b_some_of .nil pass0 (pa_cons (pv 1) (pa_cons (pe_call (ok_all_lines T B) (hr.mono (by decide)) rfl T.g_all_lines T.F_all_lines.kp T.b_all_lines .nil pass0 (pa_cons (pv 3) pa_nil)) (pa_cons pe_int pa_nil)))) (pe_call (ok_some_of T B) (hr.mono (by decide)) rfl T.g_some_of T.F_some_of.kp T.b_some_of .nil pass0 (pa_cons (pv 1) (pa_cons (pv 4) (pa_cons pe_int pa_nil))))))
  (pss_cons (ps_set (i := 8) sc_law.nd rfl (Or.inl rfl) (pe_lstS pa_nil))
  (pss_cons (ps_for PassesOwn.never rfl (pi_list (pv 7)) (pg_name (i := 9) sc_law.nd rfl (Or.inl rfl)) (pss_cons (ps_set (i := 10) sc_law.nd rfl (Or.inl rfl) (pe_call (ok_implied T B) (hr.mono (by decide)) rfl T.g_implied T.F_implied.kp T.b_implied .nil pass0 (pa_cons (pv 3) (pa_cons (pv 4) (pa_cons (pv 9) pa_nil)))))
  (pss_cons (ps_if (pt_cmpR (op_neD hr.units) (pe_callB L2.Vls.call_repr_bool (by rfl) T.z_repr (by decide +kernel) (pa_cons (pe_meth (pv 6) T.cl_Facts T.m_Facts_implies (ok_Facts_implies T B) (hr.mono (by decide)) T.b_Facts_implies .nil passL (pa_cons (pv 9) pa_nil)) pa_nil)) (pe_callB L2.Vls.call_repr_bool (by rfl) T.z_repr (by decide +kernel) (pa_cons (pv 10) pa_nil)) (nomark _)) (pss_one (ps_ret pe_bl)) pss_nil)
  (pss_one (ps_set (i := 8) sc_law.nd rfl (Or.inl rfl) (pe_op op_catS (pv 8) (pe_op op_rep (pe_lstS (pa_cons (pv 9) pa_nil)) (pe_callTy call_int1 (by rfl) T.z_int (by decide +kernel) (pa_cons (pv 10) pa_nil)))))))))
  (pss_cons (ps_for PassesOwn.never rfl (pi_range1 (by rfl) T.z_range (pa_cons pe_int pa_nil)) (pg_name (i := 11) sc_law.nd rfl (Or.inl rfl)) (pss_cons (ps_set (i := 12) sc_law.nd rfl (Or.inl rfl) (pe_call (ok_small_rows T B) (hr.mono (by decide)) rfl T.g_small_rows T.F_small_rows.kp T.b_small_rows .nil pass0 (pa_cons (pv 1) (pa_cons (pv 3) pa_nil))))
  (pss_one (ps_if (PW.pt (pw_and (pt_val (pe_call (ok_keeps_all T B) (hr.mono (by decide)) rfl T.g_keeps_all T.F_keeps_all.kp T.b_keeps_all .nil pass0 (pa_cons (pv 5) (pa_cons (pv 4) (pa_cons (pv 12) pa_nil))))) (pw_and1 (pt_not (pt_val (pe_call (ok_keeps_all T B) (hr.mono (by decide)) rfl T.g_keeps_all T.F_keeps_all.kp T.b_keeps_all .nil pass0 (pa_cons (pv 5) (pa_cons (pv 8) (pa_cons (pv 12) pa_nil))))))))) (pss_one (ps_ret pe_bl)) pss_nil))))
  (pss_one (ps_if (pt_cmpR (op_neD hr.units) (pe_prop (pv 6) T.cl_Facts T.pr_Facts_lines (ok_Facts_lines T B) (hr.mono (by decide)) T.b_Facts_lines .nil pass0 rfl) (pv 4) (nomark _)) (pss_one (ps_ret pe_bl)) pss_nil)))))))))))
  (pss_one (ps_ret (pe_call (ok_hand_right T B) (hr.mono (by decide)) rfl T.g_hand_right T.F_hand_right.kp T.b_hand_right .nil pass0 (pa_cons (pv 1) pa_nil)))))), ?_⟩
    refine ⟨_, rfl, a, ns, rfl, ha, hns, fun p c H1 np nc s1 hp => ?_⟩
    refine ⟨2, rfl, by decide, by decide, ?_⟩
    have notp : ∀ {H' : Hp} {n : Nat} {b : Addr} {u : HO}, Pen H' p c ns n → H' b = some u → (∀ o, u ≠ .dK o) → b ≠ p := fun q e no z => by
      obtain ⟨o, e2⟩ := q.pre
      rw [z, e2] at e; cases e; exact no _ rfl
    have nT : ∀ {b : Addr}, H b = some (TabX b) → b ≠ p := fun e z => by rw [z, np] at e; cases e
    refine for_range (lo := 0) (n := 2) (fun i σ H' => ∃ v2 v3 v4 v5 v6 v7 v8 v9 v10 v11 v12 : Option V, σ = [some (.ref a), some (.ref p), v2, v3, v4, v5, v6, v7, v8, v9, v10, v11, v12] ∧ Pen H' p c ns (20000 * i) ∧ But p H1 H')
      ⟨none, none, none, none, none, none, none, none, none, none, none, rfl, hp, But.refl _ _⟩ ?_ ?_
    · rintro i σ H2 hi ⟨v2, v3, v4, v5, v6, v7, v8, v9, v10, v11, v12, rfl, hp2, b2⟩
      have tt : ∀ {H' : Hp} {b : Addr}, But p H2 H' → H b = some (TabX b) → H' b = some (TabX b) := fun bb e => bb _ _ (nT e) (b2 _ _ (nT e) (s1 _ _ e))
      refine ⟨_, rfl, p, c, ns, 20000 * i, rfl, hp2, by omega, fun tabs qs lt H3 D nlt elt hT nq hp3 b3 => ?_⟩
      have nltp := notp hp3 elt (fun _ z => by cases z)
      have G := D.good
      have hf := D.few
      have nd := D.nd
      have h3 : ∀ t ∈ tabs, t.2.length ≤ 3 := fun t ht => (D.cols t ht).2.1
      refine ⟨_, rfl, _, rfl, p, c, ns, _, lt, qs, tabs, rfl, hp3, by omega, elt, hT, D, fun order fs fl H4 hperm hfs hnd hlen nfl efl hp4 b4 => ?_⟩
      have hF : ∀ f ∈ fs, Fct tabs f := fun f h => (hfs f h).1
      have nflp := notp hp4 efl (fun _ z => by cases z)
      have kT : ∀ {H' : Hp}, But p H3 H' → TabsAt H' qs tabs := fun {H'} b => Paired.mapP hT fun q t ⟨c0, e1, e2⟩ => ⟨c0, b _ _ (notp hp3 e1 (fun _ z => by cases z)) e1, b _ _ (notp hp3 e2 (fun _ z => by cases z)) e2⟩
      have kL : ∀ {H' : Hp}, But p H3 H' → H' lt = some (.lst (qs.map V.ref)) := fun b => b _ _ nltp elt
      have kfl : ∀ {H' : Hp}, But p H4 H' → H' fl = some (.lst (linesV fs)) := fun b => b _ _ nflp efl
      -- plain
      refine fun pl npl => ?_
      have sp3 : Same H4 (upd H4 pl (.dK [])) := Same.new (Same.refl _) npl
      have ep3 : (upd H4 pl (.dK [])) pl = some (.dK []) := upd_same
      have nplp : pl ≠ p := fun z => by
        obtain ⟨o, e⟩ := hp4.pre
        rw [z, e] at npl; cases npl
      generalize upd H4 pl (.dK []) = HP at sp3 ep3
      refine ⟨_, rfl, (by show 0 ≤ sizeLine; decide), fun li Hi ni si ei => ⟨(by show 0 ≤ sizeLine; decide), fun lb Hb nb sb eb => ?_⟩⟩
      refine ⟨sb _ _ (si _ _ ep3), [(.inr "tables", .ref lt), (.inr "indexes", .ref li), (.inr "body", .ref lb)], rfl, (by show 3 ≤ 15; decide), ?_⟩
      rw [merge_nodup (acc := []) (kvs := [(.inr "tables", .ref lt), (.inr "indexes", .ref li), (.inr "body", .ref lb)]) (show ([(Sum.inr "tables" : Key), Sum.inr "indexes", Sum.inr "body"] : List Key).Nodup by decide +kernel), List.nil_append]
      have ePl : (upd Hb pl (.dK [(.inr "tables", .ref lt), (.inr "indexes", .ref li), (.inr "body", .ref lb)])) pl = some (.dK [(.inr "tables", .ref lt), (.inr "indexes", .ref li), (.inr "body", .ref lb)]) := upd_same
      have s4Q : Same H4 (upd Hb pl (.dK [(.inr "tables", .ref lt), (.inr "indexes", .ref li), (.inr "body", .ref lb)])) := fun q o e => by
        rw [upd_ne (fun z => by rw [z, npl] at e; cases e)]; exact sb _ _ (si _ _ (sp3 _ _ e))
      generalize upd Hb pl (.dK [(.inr "tables", .ref lt), (.inr "indexes", .ref li), (.inr "body", .ref lb)]) = HQ at ePl s4Q
      have b3Q : But p H3 HQ := b4.trans (But.of s4Q)
      -- the schema
      refine ⟨_, rfl, lt, qs, tabs, rfl, kL b3Q, kT b3Q, D, fun H5 s5 => ?_⟩
      intro sa sdx nsa nsdx sne
      have sS : Same H5 (upd (upd H5 sdx (.own sa)) sa (.ins T.C_Schema sdx [])) := Same.new (Same.new (Same.refl _) nsdx) (by rw [upd_ne (Ne.symm sne)]; exact nsa)
      have eS : (upd (upd H5 sdx (.own sa)) sa (.ins T.C_Schema sdx [])) sa = some (.ins T.C_Schema sdx []) := upd_same
      generalize upd (upd H5 sdx (.own sa)) sa (.ins T.C_Schema sdx []) = H6 at sS eS
      have b26 : But p H2 H6 := (b3.trans b3Q).trans (But.of (s5.trans sS))
      refine ⟨sa, sdx, schemaText tabs, rfl, eS, text_good D, tt b26 hP1, tt b26 hP2, fun H7 b7 hSc => ⟨rfl, ?_⟩⟩
      rw [text_tabs D] at hSc
      have s57 : Same H5 H7 := fun q o e => b7 _ _ (fun z => by rw [z, nsa] at e; cases e) (sS _ _ e)
      have sQ7 := s5.trans s57
      have b37 := b3Q.trans (But.of sQ7)
      have b47 : But p H4 H7 := But.of (s4Q.trans sQ7)
      -- the facts
      refine ⟨_, rfl, ?_⟩
      intro f fdx nf nfdx fne
      have sG : Same H7 (upd (upd H7 fdx (.own f)) f (.ins T.C_Facts fdx [])) := Same.new (Same.new (Same.refl _) nfdx) (by rw [upd_ne (Ne.symm fne)]; exact nf)
      have eG : (upd (upd H7 fdx (.own f)) f (.ins T.C_Facts fdx [])) f = some (.ins T.C_Facts fdx []) := upd_same
      generalize upd (upd H7 fdx (.own f)) f (.ins T.C_Facts fdx []) = H8 at sG eG
      refine build D hfs (by omega) eG (hSc.same sG) (kfl (b47.trans (But.of sG))) (tt ((b3.trans b37).trans (But.of sG)) hP3) fun H9 b9 fa => ⟨rfl, ?_⟩
      have s79 : Same H7 H9 := fun q o e => b9 _ _ (fun z => by rw [z, nf] at e; cases e) (sG _ _ e)
      have s49 : Same H4 H9 := (s4Q.trans sQ7).trans s79
      have b39 := b37.trans (But.of s79)
      have hp9 := hp4.same s49
      have hPl : PlainAt H9 pl tabs := ⟨lt, li, lb, qs, (sQ7.trans s79) _ _ ePl, kL b39, kT b39⟩
      -- what is asked
      refine ⟨_, rfl, _, rfl, lt, qs, tabs, rfl, kL b39, kT b39, D, fun gs la HA hgs lgs nla ela sA => ?_⟩
      refine ⟨p, c, ns, _, la, linesV gs, 12, rfl, hp9.same sA, ela, by unfold linesV; rw [List.length_map]; omega, by decide, by omega, fun ys ra HB hys lys nra era hpB bB => ?_⟩
      have b4B : But p H4 HB := (But.of (s49.trans sA)).trans bB
      refine ⟨_, rfl, _, rfl, p, c, ns, _, fl, linesV fs, 2, rfl, hpB, kfl b4B, by unfold linesV; rw [List.length_map]; omega, by decide, by omega, fun zs rb HC hzs lzs nrb erb hpC bC => ?_⟩
      have erC := bC _ _ (notp hpB era (fun _ z => by cases z)) era
      refine ⟨ra, rb, _, _, rfl, rfl, erC, erb, Nat.le_of_lt (small1000 (by omega)), fun rk HD nrk sD eD => ?_⟩
      obtain ⟨h1, rfl, hh1⟩ := lines_are hgs hys
      obtain ⟨h2, rfl, hh2⟩ := lines_are hF hzs
      have eD : HD rk = some (.lst (linesV (h1 ++ h2))) := by
        unfold linesV at eD ⊢
        rw [List.map_append]; exact eD
      have hh : ∀ g ∈ h1 ++ h2, Fct tabs g := fun g hg => (List.mem_append.mp hg).elim (hh1 g) (hh2 g)
      have lh : (h1 ++ h2).length ≤ 14 := by
        unfold linesV at lys lzs
        rw [List.length_map] at lys lzs
        rw [List.length_append]; omega
      generalize h1 ++ h2 = hs at eD hh lh
      have hpD := hpC.same sD
      have b9D : But p H9 HD := (((But.of sA).trans bB).trans bC).trans (But.of sD)
      have b3D := b39.trans b9D
      have b4D : But p H4 HD := (But.of s49).trans b9D
      refine ⟨(by show 0 ≤ sizeLine; decide), fun ih HE nih sE eE => ?_⟩
      have b9E := b9D.trans (But.of sE)
      have b3E := b3D.trans (But.of sE)
      have b4E := b4D.trans (But.of sE)
      have b2E := b3.trans b3E
      have hpE := hpD.same sE
      have faE : FactsAt T.C_Facts T.C_Schema tabs HE f (fs.map lineT) := fa.but hp9 b9E
      refine ⟨_, rfl, rk, rfl, ⟨_, SqL.of (sE _ _ eD)⟩, ?_⟩
      have few_g : ∀ {g : Fact}, Fct tabs g → (lineT g).length ≤ 10000 ∧ ∀ y ∈ Txt.split (lineT g) " ", y.length ≤ 10000 := fun h => ask_len D h
      refine for_list (xs := linesV hs) (fun j σ H' => ∃ (v9 v10 : Option V) (iq : Addr) (is : List Fact), σ = [some (.ref a), some (.ref p), some (.int (0 + (i : Int))), some (.ref lt), some (.ref fl), some (.ref pl), some (.ref f), some (.ref rk), some (.ref iq), v9, v10, v11, v12] ∧ Same HE H' ∧ H' iq = some (.lst (linesV is)) ∧ (∀ g ∈ is, Fct tabs g ∧ Follows fs g) ∧ is.length ≤ j)
        ⟨v9, v10, ih, [], rfl, Same.refl _, eE, fun g hg => (by cases hg), Nat.le_refl _⟩ (fun j σ H' _ ⟨_, _, _, _, _, s, _⟩ => SqL.of (s _ _ (sE _ _ eD))) ?_ ?_
      · rintro j x σ Hx hx ⟨v9, v10, iq, is, rfl, sX, eX, his, lis⟩
        have hj : j < hs.length := by
          rcases Nat.lt_or_ge j hs.length with h | h
          · exact h
          · rw [List.getElem?_eq_none (by unfold linesV; rw [List.length_map]; omega)] at hx; cases hx
        rw [show (linesV hs)[j]? = some (V.str (lineT hs[j])) by show (hs.map _)[j]? = _; rw [List.getElem?_map, List.getElem?_eq_getElem hj]; rfl] at hx
        cases hx
        have hg := hh _ (List.getElem_mem hj)
        generalize hs[j] = g at hg
        have b3X := b3E.trans (But.of sX)
        have b4X := b4E.trans (But.of sX)
        have b2X := b2E.trans (But.of sX)
        refine ⟨_, rfl, _, rfl, _, rfl, lt, fl, qs, tabs, fs, g, rfl, kL b3X, kT b3X, ⟨kfl b4X, G, nd, hf, hF, by omega⟩, hg, fun due Hy sy hd => ?_⟩
        have faY : FactsAt T.C_Facts T.C_Schema tabs Hy f (fs.map lineT) := FactsAt.same faE (sX.trans sy)
        have faY' := faY
        obtain ⟨dx, df, sc', of, kvs, f1, _⟩ := faY'
        have b2Y := b2X.trans (But.of sy)
        refine ⟨_, rfl, f, dx, _, rfl, f1, rfl, _, rfl, f, _, tabs, fs.map lineT, rfl, faY, okn_of D, (few_g hg).1, (few_g hg).2, few_lines (by omega), tt b2Y hP4, tt b2Y hP5, fun g' bo Hz eg sz hb => ?_, fun _ _ e => absurd e (ask_no D hg)⟩
        have hb := ask_yes D hF hg eg hb
        have eb : bo = due := by
          have z := hb.trans hd.symm
          cases bo <;> cases due
          · rfl
          · exact absurd (z.mpr rfl) (by decide)
          · exact absurd (z.mp rfl) (by decide)
          · rfl
        subst eb
        obtain ⟨d0, d1, d2, d3⟩ := reprs_ok (K := K) bo
        refine ⟨bo, rfl, _, rfl, bo, rfl, d0, d0, d1, d1, d2, d2, false, by rw [d3]; rfl, iteF ?_⟩
        have sXz := (sX.trans sy).trans sz
        have eXz := sz _ _ (sy _ _ eX)
        refine ⟨_, rfl, _, rfl, (by show 1 ≤ sizeLine; decide), fun l1 Hu n1 su eu => ⟨_, rfl, .inr ⟨bo, rfl, l1, _, _, rfl, rfl, eu, by cases bo <;> decide, by cases bo <;> decide, ?_, fun q nq => ?_⟩⟩⟩
        · exact Nat.le_of_lt (small1000 (by cases bo <;> simp))
        have sq : Same Hu (upd Hu q (.lst (List.replicate ((if bo = true then (1 : Int) else 0)).toNat [V.str (lineT g)]).flatten)) := Same.new (Same.refl _) nq
        have eq : (upd Hu q (.lst (List.replicate ((if bo = true then (1 : Int) else 0)).toNat [V.str (lineT g)]).flatten)) q = some (.lst (linesV (if bo = true then [g] else []))) := by
          rw [upd_same]
          cases bo <;> rfl
        generalize upd Hu q (.lst (List.replicate ((if bo = true then (1 : Int) else 0)).toNat [V.str (lineT g)]).flatten) = Hv at sq eq
        refine cat2 (sq _ _ (su _ _ eXz)) eq (by omega) (by cases bo <;> simp) fun iq2 Hw nw sw ew => ?_
        refine ⟨_, _, iq2, _, rfl, ((sXz.trans su).trans sq).trans sw, ew, fun g2 hg2 => ?_, ?_⟩
        · rcases List.mem_append.mp hg2 with h | h
          · exact his g2 h
          · cases bo with
            | false => cases h
            | true =>
              rw [List.mem_singleton.mp h]
              exact ⟨hg, hb.mp rfl⟩
        · rw [List.length_append]
          cases bo <;> simp <;> omega
      · rintro σ HG ⟨v9, v10, iq, is, rfl, sX, eX, his, lis⟩
        have lis2 : is.length ≤ 14 := by
          unfold linesV at lis
          rw [List.length_map] at lis
          omega
        have hpG := hpE.same sX
        have b9G := b9E.trans (But.of sX)
        have b3G := b3E.trans (But.of sX)
        have b4G := b4E.trans (But.of sX)
        have b2G := b2E.trans (But.of sX)
        have niqp := notp hpG eX (fun _ z => by cases z)
        refine ⟨6, rfl, by decide, by decide, ?_⟩
        refine for_range (lo := 0) (n := 6) (fun j σ H' => ∃ v11 v12 : Option V, σ = [some (.ref a), some (.ref p), some (.int (0 + (i : Int))), some (.ref lt), some (.ref fl), some (.ref pl), some (.ref f), some (.ref rk), some (.ref iq), v9, v10, v11, v12] ∧ Pen H' p c ns (20000 * i + 2000 + 100 * j) ∧ But p HG H')
          ⟨v11, v12, rfl, hpG.mono (by omega), But.refl _ _⟩ ?_ ?_
        · rintro j σ Hx hj ⟨v11, v12, rfl, hpX, bX⟩
          have b3X := b3G.trans bX
          refine ⟨_, rfl, _, rfl, p, c, ns, _, lt, qs, tabs, rfl, hpX, by omega, kL b3X, kT b3X, D, fun dat d Hy fd ndn dA hpY bY => ?_⟩
          have bGY := bX.trans bY
          have b9Y := b9G.trans bGY
          have ndp : d ≠ p := fun z => by
            obtain ⟨o, e⟩ := hpX.pre
            rw [z, e] at ndn; cases ndn
          obtain ⟨g3, g4⟩ := full_small fd (Nat.le_refl _) hf h3
          have dok : DatOk tabs dat := datOk_of (full_good1 fd nd) fun q hq => (g4 q hq).1
          refine ⟨_, rfl, _, rfl, _, rfl, pl, fl, d, fs, tabs, dat, rfl, hPl.but hp9 b9Y, kfl (b4G.trans bGY), by omega, hF, dA, dok, D, fun Hz sz => ?_⟩
          refine ⟨_, rfl, ?_⟩
          cases e : fs.all (fun f => keepsB tabs dat f) with
          | false => exact iteF (iteF ⟨_, _, rfl, (hpY.same sz).mono (by omega), bGY.trans (But.of sz)⟩)
          | true =>
            have e2 : is.all (fun f => keepsB tabs dat f) = true := List.all_eq_true.mpr fun g hg => follows_kept hF (fun f hf => List.all_eq_true.mp e f hf) (his g hg).1 (his g hg).2
            have bGZ := bGY.trans (But.of sz)
            refine iteT ⟨_, rfl, _, rfl, _, rfl, pl, iq, d, is, tabs, dat, rfl, hPl.but hp9 (b9G.trans bGZ), bGZ _ _ niqp eX, by omega, fun g hg => (his g hg).1, dA.same sz, dok, D, fun Hw sw => ⟨_, rfl, ?_⟩⟩
            rw [e2]
            exact iteF ⟨_, _, rfl, ((hpY.same sz).same sw).mono (by omega), bGZ.trans (But.of sw)⟩
        · rintro σ Hx ⟨v11, v12, rfl, hpX, bX⟩
          have faX := fa.but hp9 (b9G.trans bX)
          have faX' := faX
          obtain ⟨dx, df, sc', of, kvs, f1, _⟩ := faX'
          refine ⟨_, rfl, f, dx, _, rfl, f1, f, fs.map lineT, tabs, rfl, faX, fun tl Hy nt st et => ?_⟩
          rw [onces_id hnd] at et
          have efx : Hy fl = some (.lst ((fs.map lineT).map V.str)) := by
            have z := st _ _ (kfl (b4G.trans bX))
            unfold linesV at z
            rw [List.map_map]; exact z
          refine ⟨_, rfl, ne_strs (SqL.of et) (SqL.of efx) (fun x hx => ?_) ⟨false, rfl, iteF ?_⟩⟩
          · obtain ⟨g, hg, rfl⟩ := List.mem_map.mp hx
            exact lines_ok D (hF g hg)
          · exact ⟨_, _, _, _, _, _, _, _, _, _, _, rfl, (hpX.same st).mono (by omega), b2.trans ((b2G.trans bX).trans (But.of st))⟩
    · rintro σ H2 ⟨v2, v3, v4, v5, v6, v7, v8, v9, v10, v11, v12, rfl, hp2, b2⟩
      have tt : ∀ {b : Addr}, H b = some (TabX b) → H2 b = some (TabX b) := fun e => b2 _ _ (nT e) (s1 _ _ e)
      refine ⟨_, rfl, p, c, ns, _, rfl, hp2, by decide, tt hP1, tt hP2, tt hP3, tt hP4, tt hP5, fun H3 b3 => k H3 (Same.but s1 np (b2.trans b3))⟩
end
end L2.Pf
set_option maxHeartbeats 4000000
namespace L2.Pf
open PySem PySem.Spec PyProof.Rows L2.Ev L2.Gq L2.Enf L2.Sett L2.Itr L2.Dls L2.Own L2.Ent
def mk_TX {K : PySem.W.Frag} {h : Heap} {mg : Str → Option Value} (X : K.In h) (G : h.Ns mainGlobals mg)
    {t_LETTERS : Tok}
    {t_LONGEST_NAME : Tok}
    {A_RESERVED : Addr} {dd_RESERVED : Option Addr} {n_RESERVED : Nat} {sl_RESERVED : Array (Option Value)} {t_RESERVED_0 t_RESERVED_1 t_RESERVED_2 t_RESERVED_3 t_RESERVED_4 t_RESERVED_5 t_RESERVED_6 t_RESERVED_7 t_RESERVED_8 t_RESERVED_9 t_RESERVED_10 t_RESERVED_11 t_RESERVED_12 t_RESERVED_13 t_RESERVED_14 t_RESERVED_15 t_RESERVED_16 t_RESERVED_17 t_RESERVED_18 t_RESERVED_19 t_RESERVED_20 t_RESERVED_21 t_RESERVED_22 t_RESERVED_23 t_RESERVED_24 t_RESERVED_25 t_RESERVED_26 t_RESERVED_27 t_RESERVED_28 t_RESERVED_29 : Tok}
    {A_OF_TABLES : Addr} {dd_OF_TABLES : Option Addr} {n_OF_TABLES : Nat} {sl_OF_TABLES : Array (Option Value)} {t_OF_TABLES_0 t_OF_TABLES_1 : Tok}
    {A_OF_COLUMNS : Addr} {dd_OF_COLUMNS : Option Addr} {n_OF_COLUMNS : Nat} {sl_OF_COLUMNS : Array (Option Value)} {t_OF_COLUMNS_0 t_OF_COLUMNS_1 : Tok}
    {t_MOST_TABLES : Tok}
    {t_MOST_COLUMNS : Tok}
    {C_LookError : Addr} {q_LookError : Str} {N_LookError : Addr} {bs_LookError : List Value} {sn_LookError : List Str} {su_LookError : List Value} {ab_LookError : Bool} {co_LookError : Option Bool} {dd_LookError : Option Addr} {k0_LookError k1_LookError k2_LookError k3_LookError k5_LookError : Option Value}
    {C_BadFact : Addr} {q_BadFact : Str} {N_BadFact : Addr} {bs_BadFact : List Value} {sn_BadFact : List Str} {su_BadFact : List Value} {ab_BadFact : Bool} {co_BadFact : Option Bool} {dd_BadFact : Option Addr} {k0_BadFact k1_BadFact k2_BadFact k3_BadFact k5_BadFact : Option Value}
    {C_BadProgram : Addr} {q_BadProgram : Str} {N_BadProgram : Addr} {bs_BadProgram : List Value} {sn_BadProgram : List Str} {su_BadProgram : List Value} {ab_BadProgram : Bool} {co_BadProgram : Option Bool} {dd_BadProgram : Option Addr} {k0_BadProgram k1_BadProgram k2_BadProgram k3_BadProgram k5_BadProgram : Option Value}
    {C_OtherTables : Addr} {q_OtherTables : Str} {N_OtherTables : Addr} {bs_OtherTables : List Value} {sn_OtherTables : List Str} {su_OtherTables : List Value} {ab_OtherTables : Bool} {co_OtherTables : Option Bool} {dd_OtherTables : Option Addr} {k0_OtherTables k1_OtherTables k2_OtherTables k3_OtherTables k5_OtherTables : Option Value}
    {C_NoName : Addr} {q_NoName : Str} {N_NoName : Addr} {bs_NoName : List Value} {sn_NoName : List Str} {su_NoName : List Value} {ab_NoName : Bool} {co_NoName : Option Bool} {dd_NoName : Option Addr} {k0_NoName k1_NoName k2_NoName k3_NoName k5_NoName : Option Value}
    {C_Facts : Addr}
    {C_Schema : Addr}
    {f_wall : Addr} {od_wall an_wall : Option Addr} {sl_wall : Array (Option Value)} {oc_wall kV_wall dc_wall pm_wall ct_wall : Value} {cd_wall : Value}
    {f_BadFact_init : Addr} {od_BadFact_init an_BadFact_init : Option Addr} {sl_BadFact_init : Array (Option Value)} {oc_BadFact_init kV_BadFact_init dc_BadFact_init pm_BadFact_init ct_BadFact_init : Value} {cd_BadFact_init : Value}
    {f_BadProgram_init : Addr} {od_BadProgram_init an_BadProgram_init : Option Addr} {sl_BadProgram_init : Array (Option Value)} {oc_BadProgram_init kV_BadProgram_init dc_BadProgram_init pm_BadProgram_init ct_BadProgram_init : Value} {cd_BadProgram_init : Value}
    {f_NoName_init : Addr} {od_NoName_init an_NoName_init : Option Addr} {sl_NoName_init : Array (Option Value)} {oc_NoName_init kV_NoName_init dc_NoName_init pm_NoName_init ct_NoName_init : Value} {cd_NoName_init : Value}
    {f_reached : Addr} {od_reached an_reached : Option Addr} {sl_reached : Array (Option Value)} {oc_reached kV_reached dc_reached pm_reached ct_reached : Value} {cd_reached : Value}
    {f_lines_of : Addr} {od_lines_of an_lines_of : Option Addr} {sl_lines_of : Array (Option Value)} {oc_lines_of kV_lines_of dc_lines_of pm_lines_of ct_lines_of : Value} {cd_lines_of : Value}
    {f_words_of : Addr} {od_words_of an_words_of : Option Addr} {sl_words_of : Array (Option Value)} {oc_words_of kV_words_of dc_words_of pm_words_of ct_words_of : Value} {cd_words_of : Value}
    {f_is_name : Addr} {od_is_name an_is_name : Option Addr} {sl_is_name : Array (Option Value)} {oc_is_name kV_is_name dc_is_name pm_is_name ct_is_name : Value} {c_is_name : Addr}
    {P_is_name : Addr} {tq_is_name : Value} {tr_is_name : Option Addr} {tv_is_name : Array Value} {ts_is_name : Array (Option Value)}
    {f_read_facts : Addr} {od_read_facts an_read_facts : Option Addr} {sl_read_facts : Array (Option Value)} {oc_read_facts kV_read_facts dc_read_facts pm_read_facts ct_read_facts : Value} {cd_read_facts : Value}
    {f_read_fact : Addr} {od_read_fact an_read_fact : Option Addr} {sl_read_fact : Array (Option Value)} {oc_read_fact kV_read_fact dc_read_fact pm_read_fact ct_read_fact : Value} {cd_read_fact : Value}
    {f_read_table : Addr} {od_read_table an_read_table : Option Addr} {sl_read_table : Array (Option Value)} {oc_read_table kV_read_table dc_read_table pm_read_table ct_read_table : Value} {cd_read_table : Value}
    {f_read_column : Addr} {od_read_column an_read_column : Option Addr} {sl_read_column : Array (Option Value)} {oc_read_column kV_read_column dc_read_column pm_read_column ct_read_column : Value} {cd_read_column : Value}
    {f_leads_back : Addr} {od_leads_back an_leads_back : Option Addr} {sl_leads_back : Array (Option Value)} {oc_leads_back kV_leads_back dc_leads_back pm_leads_back ct_leads_back : Value} {c_leads_back : Addr}
    {P_leads_back : Addr} {tq_leads_back : Value} {tr_leads_back : Option Addr} {tv_leads_back : Array Value} {ts_leads_back : Array (Option Value)}
    {f_column_links : Addr} {od_column_links an_column_links : Option Addr} {sl_column_links : Array (Option Value)} {oc_column_links kV_column_links dc_column_links pm_column_links ct_column_links : Value} {cd_column_links : Value}
    {f_table_links : Addr} {od_table_links an_table_links : Option Addr} {sl_table_links : Array (Option Value)} {oc_table_links kV_table_links dc_table_links pm_table_links ct_table_links : Value} {cd_table_links : Value}
    {f_places_of : Addr} {od_places_of an_places_of : Option Addr} {sl_places_of : Array (Option Value)} {oc_places_of kV_places_of dc_places_of pm_places_of ct_places_of : Value} {cd_places_of : Value}
    {f_follows : Addr} {od_follows an_follows : Option Addr} {sl_follows : Array (Option Value)} {oc_follows kV_follows dc_follows pm_follows ct_follows : Value} {cd_follows : Value}
    {f_is_filled : Addr} {od_is_filled an_is_filled : Option Addr} {sl_is_filled : Array (Option Value)} {oc_is_filled kV_is_filled dc_is_filled pm_is_filled ct_is_filled : Value} {c_is_filled : Addr}
    {P_is_filled : Addr} {tq_is_filled : Value} {tr_is_filled : Option Addr} {tv_is_filled : Array Value} {ts_is_filled : Array (Option Value)}
    {f_is_found : Addr} {od_is_found an_is_found : Option Addr} {sl_is_found : Array (Option Value)} {oc_is_found kV_is_found dc_is_found pm_is_found ct_is_found : Value} {cd_is_found : Value}
    {f_turned_links : Addr} {od_turned_links an_turned_links : Option Addr} {sl_turned_links : Array (Option Value)} {oc_turned_links kV_turned_links dc_turned_links pm_turned_links ct_turned_links : Value} {cd_turned_links : Value}
    {f_lone_tables : Addr} {od_lone_tables an_lone_tables : Option Addr} {sl_lone_tables : Array (Option Value)} {oc_lone_tables kV_lone_tables dc_lone_tables pm_lone_tables ct_lone_tables : Value} {cd_lone_tables : Value}
    {f_is_constant : Addr} {od_is_constant an_is_constant : Option Addr} {sl_is_constant : Array (Option Value)} {oc_is_constant kV_is_constant dc_is_constant pm_is_constant ct_is_constant : Value} {c_is_constant : Addr}
    {P_is_constant : Addr} {tq_is_constant : Value} {tr_is_constant : Option Addr} {tv_is_constant : Array Value} {ts_is_constant : Array (Option Value)}
    {f_Facts_init : Addr} {od_Facts_init an_Facts_init : Option Addr} {sl_Facts_init : Array (Option Value)} {oc_Facts_init kV_Facts_init dc_Facts_init pm_Facts_init ct_Facts_init : Value} {cd_Facts_init : Value}
    {f_Facts_lines : Addr} {od_Facts_lines an_Facts_lines : Option Addr} {sl_Facts_lines : Array (Option Value)} {oc_Facts_lines kV_Facts_lines dc_Facts_lines pm_Facts_lines ct_Facts_lines : Value} {cd_Facts_lines : Value}
    {pp_Facts_lines : Addr} {rs_Facts_lines : List Value}
    {f_Facts_iter : Addr} {od_Facts_iter an_Facts_iter : Option Addr} {sl_Facts_iter : Array (Option Value)} {oc_Facts_iter kV_Facts_iter dc_Facts_iter pm_Facts_iter ct_Facts_iter : Value} {cd_Facts_iter : Value}
    {f_Facts_contains : Addr} {od_Facts_contains an_Facts_contains : Option Addr} {sl_Facts_contains : Array (Option Value)} {oc_Facts_contains kV_Facts_contains dc_Facts_contains pm_Facts_contains ct_Facts_contains : Value} {cd_Facts_contains : Value}
    {f_Facts_or : Addr} {od_Facts_or an_Facts_or : Option Addr} {sl_Facts_or : Array (Option Value)} {oc_Facts_or kV_Facts_or dc_Facts_or pm_Facts_or ct_Facts_or : Value} {cd_Facts_or : Value}
    {f_Facts_broken : Addr} {od_Facts_broken an_Facts_broken : Option Addr} {sl_Facts_broken : Array (Option Value)} {oc_Facts_broken kV_Facts_broken dc_Facts_broken pm_Facts_broken ct_Facts_broken : Value} {cd_Facts_broken : Value}
    {f_Facts_are_over : Addr} {od_Facts_are_over an_Facts_are_over : Option Addr} {sl_Facts_are_over : Array (Option Value)} {oc_Facts_are_over kV_Facts_are_over dc_Facts_are_over pm_Facts_are_over ct_Facts_are_over : Value} {cd_Facts_are_over : Value}
    {f_Facts_as_read : Addr} {od_Facts_as_read an_Facts_as_read : Option Addr} {sl_Facts_as_read : Array (Option Value)} {oc_Facts_as_read kV_Facts_as_read dc_Facts_as_read pm_Facts_as_read ct_Facts_as_read : Value} {cd_Facts_as_read : Value}
    {f_Facts_implies : Addr} {od_Facts_implies an_Facts_implies : Option Addr} {sl_Facts_implies : Array (Option Value)} {oc_Facts_implies kV_Facts_implies dc_Facts_implies pm_Facts_implies ct_Facts_implies : Value} {cd_Facts_implies : Value}
    {f_Schema_init : Addr} {od_Schema_init an_Schema_init : Option Addr} {sl_Schema_init : Array (Option Value)} {oc_Schema_init kV_Schema_init dc_Schema_init pm_Schema_init ct_Schema_init : Value} {cd_Schema_init : Value}
    {f_Schema_columns : Addr} {od_Schema_columns an_Schema_columns : Option Addr} {sl_Schema_columns : Array (Option Value)} {oc_Schema_columns kV_Schema_columns dc_Schema_columns pm_Schema_columns ct_Schema_columns : Value} {cd_Schema_columns : Value}
    {f_Schema_fits : Addr} {od_Schema_fits an_Schema_fits : Option Addr} {sl_Schema_fits : Array (Option Value)} {oc_Schema_fits kV_Schema_fits dc_Schema_fits pm_Schema_fits ct_Schema_fits : Value} {cd_Schema_fits : Value}
    {f_Schema_check : Addr} {od_Schema_check an_Schema_check : Option Addr} {sl_Schema_check : Array (Option Value)} {oc_Schema_check kV_Schema_check dc_Schema_check pm_Schema_check ct_Schema_check : Value} {cd_Schema_check : Value}
    {f_declared_tables : Addr} {od_declared_tables an_declared_tables : Option Addr} {sl_declared_tables : Array (Option Value)} {oc_declared_tables kV_declared_tables dc_declared_tables pm_declared_tables ct_declared_tables : Value} {cd_declared_tables : Value}
    {f_is_table_line : Addr} {od_is_table_line an_is_table_line : Option Addr} {sl_is_table_line : Array (Option Value)} {oc_is_table_line kV_is_table_line dc_is_table_line pm_is_table_line ct_is_table_line : Value} {c_is_table_line : Addr}
    {P_is_table_line : Addr} {tq_is_table_line : Value} {tr_is_table_line : Option Addr} {tv_is_table_line : Array Value} {ts_is_table_line : Array (Option Value)}
    {f_begun_pen : Addr} {od_begun_pen an_begun_pen : Option Addr} {sl_begun_pen : Array (Option Value)} {oc_begun_pen kV_begun_pen dc_begun_pen pm_begun_pen ct_begun_pen : Value} {cd_begun_pen : Value}
    {f_draw : Addr} {od_draw an_draw : Option Addr} {sl_draw : Array (Option Value)} {oc_draw kV_draw dc_draw pm_draw ct_draw : Value} {cd_draw : Value}
    {f_pick : Addr} {od_pick an_pick : Option Addr} {sl_pick : Array (Option Value)} {oc_pick kV_pick dc_pick pm_pick ct_pick : Value} {cd_pick : Value}
    {f_shuffled : Addr} {od_shuffled an_shuffled : Option Addr} {sl_shuffled : Array (Option Value)} {oc_shuffled kV_shuffled dc_shuffled pm_shuffled ct_shuffled : Value} {cd_shuffled : Value}
    {f_new_names : Addr} {od_new_names an_new_names : Option Addr} {sl_new_names : Array (Option Value)} {oc_new_names kV_new_names dc_new_names pm_new_names ct_new_names : Value} {cd_new_names : Value}
    {f_columns : Addr} {od_columns an_columns : Option Addr} {sl_columns : Array (Option Value)} {oc_columns kV_columns dc_columns pm_columns ct_columns : Value} {cd_columns : Value}
    {f_keeps : Addr} {od_keeps an_keeps : Option Addr} {sl_keeps : Array (Option Value)} {oc_keeps kV_keeps dc_keeps pm_keeps ct_keeps : Value} {cd_keeps : Value}
    {f_keeps_all : Addr} {od_keeps_all an_keeps_all : Option Addr} {sl_keeps_all : Array (Option Value)} {oc_keeps_all kV_keeps_all dc_keeps_all pm_keeps_all ct_keeps_all : Value} {cd_keeps_all : Value}
    {f_schema_text : Addr} {od_schema_text an_schema_text : Option Addr} {sl_schema_text : Array (Option Value)} {oc_schema_text kV_schema_text dc_schema_text pm_schema_text ct_schema_text : Value} {cd_schema_text : Value}
    {f_spot : Addr} {od_spot an_spot : Option Addr} {sl_spot : Array (Option Value)} {oc_spot kV_spot dc_spot pm_spot ct_spot : Value} {cd_spot : Value}
    {f_each_once : Addr} {od_each_once an_each_once : Option Addr} {sl_each_once : Array (Option Value)} {oc_each_once kV_each_once dc_each_once pm_each_once ct_each_once : Value} {cd_each_once : Value}
    {f_fact_tables : Addr} {od_fact_tables an_fact_tables : Option Addr} {sl_fact_tables : Array (Option Value)} {oc_fact_tables kV_fact_tables dc_fact_tables pm_fact_tables ct_fact_tables : Value} {cd_fact_tables : Value}
    {f_led_from : Addr} {od_led_from an_led_from : Option Addr} {sl_led_from : Array (Option Value)} {oc_led_from kV_led_from dc_led_from pm_led_from ct_led_from : Value} {cd_led_from : Value}
    {f_filled : Addr} {od_filled an_filled : Option Addr} {sl_filled : Array (Option Value)} {oc_filled kV_filled dc_filled pm_filled ct_filled : Value} {cd_filled : Value}
    {f_found_pairs : Addr} {od_found_pairs an_found_pairs : Option Addr} {sl_found_pairs : Array (Option Value)} {oc_found_pairs kV_found_pairs dc_found_pairs pm_found_pairs ct_found_pairs : Value} {cd_found_pairs : Value}
    {f_fixed : Addr} {od_fixed an_fixed : Option Addr} {sl_fixed : Array (Option Value)} {oc_fixed kV_fixed dc_fixed pm_fixed ct_fixed : Value} {cd_fixed : Value}
    {f_same_value : Addr} {od_same_value an_same_value : Option Addr} {sl_same_value : Array (Option Value)} {oc_same_value kV_same_value dc_same_value pm_same_value ct_same_value : Value} {cd_same_value : Value}
    {f_found_implied : Addr} {od_found_implied an_found_implied : Option Addr} {sl_found_implied : Array (Option Value)} {oc_found_implied kV_found_implied dc_found_implied pm_found_implied ct_found_implied : Value} {cd_found_implied : Value}
    {f_implied : Addr} {od_implied an_implied : Option Addr} {sl_implied : Array (Option Value)} {oc_implied kV_implied dc_implied pm_implied ct_implied : Value} {cd_implied : Value}
    {f_linked_facts : Addr} {od_linked_facts an_linked_facts : Option Addr} {sl_linked_facts : Array (Option Value)} {oc_linked_facts kV_linked_facts dc_linked_facts pm_linked_facts ct_linked_facts : Value} {cd_linked_facts : Value}
    {f_some_of : Addr} {od_some_of an_some_of : Option Addr} {sl_some_of : Array (Option Value)} {oc_some_of kV_some_of dc_some_of pm_some_of ct_some_of : Value} {cd_some_of : Value}
    {f_all_lines : Addr} {od_all_lines an_all_lines : Option Addr} {sl_all_lines : Array (Option Value)} {oc_all_lines kV_all_lines dc_all_lines pm_all_lines ct_all_lines : Value} {cd_all_lines : Value}
    {f_small_rows : Addr} {od_small_rows an_small_rows : Option Addr} {sl_small_rows : Array (Option Value)} {oc_small_rows kV_small_rows dc_small_rows pm_small_rows ct_small_rows : Value} {cd_small_rows : Value}
    {f_linked_tables : Addr} {od_linked_tables an_linked_tables : Option Addr} {sl_linked_tables : Array (Option Value)} {oc_linked_tables kV_linked_tables dc_linked_tables pm_linked_tables ct_linked_tables : Value} {cd_linked_tables : Value}
    {f_hand_right : Addr} {od_hand_right an_hand_right : Option Addr} {sl_hand_right : Array (Option Value)} {oc_hand_right kV_hand_right dc_hand_right pm_hand_right ct_hand_right : Value} {cd_hand_right : Value}
    {f_law : Addr} {od_law an_law : Option Addr} {sl_law : Array (Option Value)} {oc_law kV_law dc_law pm_law ct_law : Value} {cd_law : Value}
    (z_all : PySem.W.nsIn K mainGlobals "all" = some none)
    (z_len : PySem.W.nsIn K mainGlobals "len" = some none)
    (z_enumerate : PySem.W.nsIn K mainGlobals "enumerate" = some none)
    (z_any : PySem.W.nsIn K mainGlobals "any" = some none)
    (z_property : PySem.W.nsIn K mainGlobals "property" = some none)
    (z_list : PySem.W.nsIn K mainGlobals "list" = some none)
    (z_iter : PySem.W.nsIn K mainGlobals "iter" = some none)
    (z_tuple : PySem.W.nsIn K mainGlobals "tuple" = some none)
    (z_set : PySem.W.nsIn K mainGlobals "set" = some none)
    (z_int : PySem.W.nsIn K mainGlobals "int" = some none)
    (z_abs : PySem.W.nsIn K mainGlobals "abs" = some none)
    (z_sorted : PySem.W.nsIn K mainGlobals "sorted" = some none)
    (z_range : PySem.W.nsIn K mainGlobals "range" = some none)
    (z_min : PySem.W.nsIn K mainGlobals "min" = some none)
    (z_repr : PySem.W.nsIn K mainGlobals "repr" = some none)
    (c_LETTERS : PySem.W.nsIn K mainGlobals "LETTERS" = some (some (.str "abcdefghijklmnopqrstuvwxyz" t_LETTERS)))
    (c_LONGEST_NAME : PySem.W.nsIn K mainGlobals "LONGEST_NAME" = some (some (.int 12 t_LONGEST_NAME)))
    (c_RESERVED : PySem.W.nsIn K mainGlobals "RESERVED" = some (some (.ref A_RESERVED)))
    (v_RESERVED : K.lookup A_RESERVED = some ⟨.type "tuple", dd_RESERVED, .seq ([.str "table" t_RESERVED_0, .str "index" t_RESERVED_1, .str "of" t_RESERVED_2, .str "in" t_RESERVED_3, .str "from" t_RESERVED_4, .str "at" t_RESERVED_5, .str "by" t_RESERVED_6, .str "keep" t_RESERVED_7, .str "first" t_RESERVED_8, .str "last" t_RESERVED_9, .str "all" t_RESERVED_10, .str "where" t_RESERVED_11, .str "until" t_RESERVED_12, .str "find" t_RESERVED_13, .str "get" t_RESERVED_14, .str "need" t_RESERVED_15, .str "each" t_RESERVED_16, .str "if" t_RESERVED_17, .str "else" t_RESERVED_18, .str "end" t_RESERVED_19, .str "put" t_RESERVED_20, .str "next" t_RESERVED_21, .str "and" t_RESERVED_22, .str "not" t_RESERVED_23, .str "is" t_RESERVED_24, .str "some" t_RESERVED_25, .str "before" t_RESERVED_26, .str "has" t_RESERVED_27, .str "missing" t_RESERVED_28, .str "none" t_RESERVED_29] : List Value).toArray n_RESERVED, sl_RESERVED⟩)
    (c_OF_TABLES : PySem.W.nsIn K mainGlobals "OF_TABLES" = some (some (.ref A_OF_TABLES)))
    (v_OF_TABLES : K.lookup A_OF_TABLES = some ⟨.type "tuple", dd_OF_TABLES, .seq ([.str "single" t_OF_TABLES_0, .str "filled" t_OF_TABLES_1] : List Value).toArray n_OF_TABLES, sl_OF_TABLES⟩)
    (c_OF_COLUMNS : PySem.W.nsIn K mainGlobals "OF_COLUMNS" = some (some (.ref A_OF_COLUMNS)))
    (v_OF_COLUMNS : K.lookup A_OF_COLUMNS = some ⟨.type "tuple", dd_OF_COLUMNS, .seq ([.str "unique" t_OF_COLUMNS_0, .str "sorted" t_OF_COLUMNS_1] : List Value).toArray n_OF_COLUMNS, sl_OF_COLUMNS⟩)
    (c_MOST_TABLES : PySem.W.nsIn K mainGlobals "MOST_TABLES" = some (some (.int 4 t_MOST_TABLES)))
    (c_MOST_COLUMNS : PySem.W.nsIn K mainGlobals "MOST_COLUMNS" = some (some (.int 3 t_MOST_COLUMNS)))
    (gn : PySem.W.specialIn K (.builtin "object.__class__") "__get__" = some (some (.builtin "getset_descriptor.__get__")))
    (gt : PySem.W.takesIn K (.builtin "object.__class__") = some true)
    (xa_LookError : PySem.W.nsIn K mainGlobals "LookError" = some (some (.ref C_LookError)))
    (xl_LookError : K.lookup C_LookError = some (excClassObj "LookError" q_LookError C_LookError N_LookError bs_LookError [.type "ValueError", .type "Exception", .type "BaseException", .type "object"] true sn_LookError su_LookError ab_LookError co_LookError dd_LookError k0_LookError k1_LookError k2_LookError k3_LookError k5_LookError "ValueError.__new__"))
    (xs_LookError : PySem.W.findIn K (.ref C_LookError) "__setattr__" = some (some (.builtin "object.__setattr__")))
    (xg_LookError : PySem.W.findIn K (.ref C_LookError) "__getattribute__" = some (some (.builtin "BaseException.__getattribute__")))
    (xt_LookError : PySem.W.findIn K (.ref C_LookError) "__getattr__" = some none)
    (xc_LookError : PySem.W.findIn K (.ref C_LookError) "__class__" = some (some (.builtin "object.__class__")))
    (xk_LookError : PySem.W.keepIn K (.ref C_LookError) = true)
    (xe_LookError : PySem.W.excIn K C_LookError [.type "ValueError", .type "Exception", .type "BaseException", .type "object"] "ValueError.__new__" = true)
    (xa_BadFact : PySem.W.nsIn K mainGlobals "BadFact" = some (some (.ref C_BadFact)))
    (xl_BadFact : K.lookup C_BadFact = some (excClassObj "BadFact" q_BadFact C_BadFact N_BadFact bs_BadFact [.ref C_LookError, .type "ValueError", .type "Exception", .type "BaseException", .type "object"] true sn_BadFact su_BadFact ab_BadFact co_BadFact dd_BadFact k0_BadFact k1_BadFact k2_BadFact k3_BadFact k5_BadFact "ValueError.__new__"))
    (xs_BadFact : PySem.W.findIn K (.ref C_BadFact) "__setattr__" = some (some (.builtin "object.__setattr__")))
    (xg_BadFact : PySem.W.findIn K (.ref C_BadFact) "__getattribute__" = some (some (.builtin "BaseException.__getattribute__")))
    (xt_BadFact : PySem.W.findIn K (.ref C_BadFact) "__getattr__" = some none)
    (xc_BadFact : PySem.W.findIn K (.ref C_BadFact) "__class__" = some (some (.builtin "object.__class__")))
    (xk_BadFact : PySem.W.keepIn K (.ref C_BadFact) = true)
    (xa_BadProgram : PySem.W.nsIn K mainGlobals "BadProgram" = some (some (.ref C_BadProgram)))
    (xl_BadProgram : K.lookup C_BadProgram = some (excClassObj "BadProgram" q_BadProgram C_BadProgram N_BadProgram bs_BadProgram [.ref C_LookError, .type "ValueError", .type "Exception", .type "BaseException", .type "object"] true sn_BadProgram su_BadProgram ab_BadProgram co_BadProgram dd_BadProgram k0_BadProgram k1_BadProgram k2_BadProgram k3_BadProgram k5_BadProgram "ValueError.__new__"))
    (xs_BadProgram : PySem.W.findIn K (.ref C_BadProgram) "__setattr__" = some (some (.builtin "object.__setattr__")))
    (xg_BadProgram : PySem.W.findIn K (.ref C_BadProgram) "__getattribute__" = some (some (.builtin "BaseException.__getattribute__")))
    (xt_BadProgram : PySem.W.findIn K (.ref C_BadProgram) "__getattr__" = some none)
    (xc_BadProgram : PySem.W.findIn K (.ref C_BadProgram) "__class__" = some (some (.builtin "object.__class__")))
    (xk_BadProgram : PySem.W.keepIn K (.ref C_BadProgram) = true)
    (xa_OtherTables : PySem.W.nsIn K mainGlobals "OtherTables" = some (some (.ref C_OtherTables)))
    (xl_OtherTables : K.lookup C_OtherTables = some (excClassObj "OtherTables" q_OtherTables C_OtherTables N_OtherTables bs_OtherTables [.ref C_LookError, .type "ValueError", .type "Exception", .type "BaseException", .type "object"] true sn_OtherTables su_OtherTables ab_OtherTables co_OtherTables dd_OtherTables k0_OtherTables k1_OtherTables k2_OtherTables k3_OtherTables k5_OtherTables "ValueError.__new__"))
    (xs_OtherTables : PySem.W.findIn K (.ref C_OtherTables) "__setattr__" = some (some (.builtin "object.__setattr__")))
    (xg_OtherTables : PySem.W.findIn K (.ref C_OtherTables) "__getattribute__" = some (some (.builtin "BaseException.__getattribute__")))
    (xt_OtherTables : PySem.W.findIn K (.ref C_OtherTables) "__getattr__" = some none)
    (xc_OtherTables : PySem.W.findIn K (.ref C_OtherTables) "__class__" = some (some (.builtin "object.__class__")))
    (xk_OtherTables : PySem.W.keepIn K (.ref C_OtherTables) = true)
    (xe_OtherTables : PySem.W.excIn K C_OtherTables [.type "ValueError", .type "Exception", .type "BaseException", .type "object"] "ValueError.__new__" = true)
    (xa_NoName : PySem.W.nsIn K mainGlobals "NoName" = some (some (.ref C_NoName)))
    (xl_NoName : K.lookup C_NoName = some (excClassObj "NoName" q_NoName C_NoName N_NoName bs_NoName [.ref C_LookError, .type "ValueError", .type "Exception", .type "BaseException", .type "object"] true sn_NoName su_NoName ab_NoName co_NoName dd_NoName k0_NoName k1_NoName k2_NoName k3_NoName k5_NoName "ValueError.__new__"))
    (xs_NoName : PySem.W.findIn K (.ref C_NoName) "__setattr__" = some (some (.builtin "object.__setattr__")))
    (xg_NoName : PySem.W.findIn K (.ref C_NoName) "__getattribute__" = some (some (.builtin "BaseException.__getattribute__")))
    (xt_NoName : PySem.W.findIn K (.ref C_NoName) "__getattr__" = some none)
    (xc_NoName : PySem.W.findIn K (.ref C_NoName) "__class__" = some (some (.builtin "object.__class__")))
    (xk_NoName : PySem.W.keepIn K (.ref C_NoName) = true)
    (ca_Facts : PySem.W.nsIn K mainGlobals "Facts" = some (some (.ref C_Facts)))
    (pg_Facts : PySem.W.plainGet K C_Facts Str.empty = true)
    (hd_Facts : PySem.W.hasDictIn K C_Facts = true)
    (po_Facts : PySem.W.plainOver K C_Facts = true)
    (sa_Facts : PySem.W.findIn K (.ref C_Facts) "__setattr__" = some (some (.builtin "object.__setattr__")))
    (ma_Facts : PySem.W.makesIn K C_Facts = true)
    (kc_Facts : PySem.W.keepIn K (.ref C_Facts) = true)
    (nf_Facts__schema : PySem.W.findIn K (.ref C_Facts) "_schema" = some none)
    (nf_Facts__facts : PySem.W.findIn K (.ref C_Facts) "_facts" = some none)
    (ca_Schema : PySem.W.nsIn K mainGlobals "Schema" = some (some (.ref C_Schema)))
    (pg_Schema : PySem.W.plainGet K C_Schema Str.empty = true)
    (hd_Schema : PySem.W.hasDictIn K C_Schema = true)
    (po_Schema : PySem.W.plainOver K C_Schema = true)
    (sa_Schema : PySem.W.findIn K (.ref C_Schema) "__setattr__" = some (some (.builtin "object.__setattr__")))
    (ma_Schema : PySem.W.makesIn K C_Schema = true)
    (kc_Schema : PySem.W.keepIn K (.ref C_Schema) = true)
    (nf_Schema__columns : PySem.W.findIn K (.ref C_Schema) "_columns" = some none)
    (nf_Schema_tables : PySem.W.findIn K (.ref C_Schema) "tables" = some none)
    (fa_wall : PySem.W.nsIn K mainGlobals "_wall" = some (some (.ref f_wall)))
    (fl_wall : K.lookup f_wall = some ⟨oc_wall, od_wall, .func (PySem.W.fnOf "_wall" "_wall" (defArgs s_wall) (defBody s_wall) (defScope s_wall) .none kV_wall dc_wall pm_wall an_wall cd_wall ct_wall), sl_wall⟩)
    (fc_wall : PySem.W.codeIn K cd_wall "_wall" = true)
    (fk_wall : PySem.W.keepIn K (.ref f_wall) = true)
    (fa_BadFact_init : PySem.W.findIn K (.ref C_BadFact) "__init__" = some (some (.ref f_BadFact_init)))
    (fl_BadFact_init : K.lookup f_BadFact_init = some ⟨oc_BadFact_init, od_BadFact_init, .func (PySem.W.fnOf "__init__" "BadFact.__init__" (defArgs s_BadFact_init) (defBody s_BadFact_init) (defScope s_BadFact_init) .none kV_BadFact_init dc_BadFact_init pm_BadFact_init an_BadFact_init cd_BadFact_init ct_BadFact_init), sl_BadFact_init⟩)
    (fc_BadFact_init : PySem.W.codeIn K cd_BadFact_init "BadFact.__init__" = true)
    (fk_BadFact_init : PySem.W.keepIn K (.ref f_BadFact_init) = true)
    (ft_BadFact_init : PySem.W.typeIn K (.ref f_BadFact_init) = some (.type "function"))
    (fn_BadFact_init_index : PySem.W.findIn K (.ref C_BadFact) "index" = some none)
    (fa_BadProgram_init : PySem.W.findIn K (.ref C_BadProgram) "__init__" = some (some (.ref f_BadProgram_init)))
    (fl_BadProgram_init : K.lookup f_BadProgram_init = some ⟨oc_BadProgram_init, od_BadProgram_init, .func (PySem.W.fnOf "__init__" "BadProgram.__init__" (defArgs s_BadProgram_init) (defBody s_BadProgram_init) (defScope s_BadProgram_init) .none kV_BadProgram_init dc_BadProgram_init pm_BadProgram_init an_BadProgram_init cd_BadProgram_init ct_BadProgram_init), sl_BadProgram_init⟩)
    (fc_BadProgram_init : PySem.W.codeIn K cd_BadProgram_init "BadProgram.__init__" = true)
    (fk_BadProgram_init : PySem.W.keepIn K (.ref f_BadProgram_init) = true)
    (ft_BadProgram_init : PySem.W.typeIn K (.ref f_BadProgram_init) = some (.type "function"))
    (fn_BadProgram_init_line : PySem.W.findIn K (.ref C_BadProgram) "line" = some none)
    (fa_NoName_init : PySem.W.findIn K (.ref C_NoName) "__init__" = some (some (.ref f_NoName_init)))
    (fl_NoName_init : K.lookup f_NoName_init = some ⟨oc_NoName_init, od_NoName_init, .func (PySem.W.fnOf "__init__" "NoName.__init__" (defArgs s_NoName_init) (defBody s_NoName_init) (defScope s_NoName_init) .none kV_NoName_init dc_NoName_init pm_NoName_init an_NoName_init cd_NoName_init ct_NoName_init), sl_NoName_init⟩)
    (fc_NoName_init : PySem.W.codeIn K cd_NoName_init "NoName.__init__" = true)
    (fk_NoName_init : PySem.W.keepIn K (.ref f_NoName_init) = true)
    (ft_NoName_init : PySem.W.typeIn K (.ref f_NoName_init) = some (.type "function"))
    (fn_NoName_init_name : PySem.W.findIn K (.ref C_NoName) "name" = some none)
    (fa_reached : PySem.W.nsIn K mainGlobals "reached" = some (some (.ref f_reached)))
    (fl_reached : K.lookup f_reached = some ⟨oc_reached, od_reached, .func (PySem.W.fnOf "reached" "reached" (defArgs s_reached) (defBody s_reached) (defScope s_reached) .none kV_reached dc_reached pm_reached an_reached cd_reached ct_reached), sl_reached⟩)
    (fc_reached : PySem.W.codeIn K cd_reached "reached" = true)
    (fk_reached : PySem.W.keepIn K (.ref f_reached) = true)
    (fa_lines_of : PySem.W.nsIn K mainGlobals "lines_of" = some (some (.ref f_lines_of)))
    (fl_lines_of : K.lookup f_lines_of = some ⟨oc_lines_of, od_lines_of, .func (PySem.W.fnOf "lines_of" "lines_of" (defArgs s_lines_of) (defBody s_lines_of) (defScope s_lines_of) .none kV_lines_of dc_lines_of pm_lines_of an_lines_of cd_lines_of ct_lines_of), sl_lines_of⟩)
    (fc_lines_of : PySem.W.codeIn K cd_lines_of "lines_of" = true)
    (fk_lines_of : PySem.W.keepIn K (.ref f_lines_of) = true)
    (fa_words_of : PySem.W.nsIn K mainGlobals "words_of" = some (some (.ref f_words_of)))
    (fl_words_of : K.lookup f_words_of = some ⟨oc_words_of, od_words_of, .func (PySem.W.fnOf "words_of" "words_of" (defArgs s_words_of) (defBody s_words_of) (defScope s_words_of) .none kV_words_of dc_words_of pm_words_of an_words_of cd_words_of ct_words_of), sl_words_of⟩)
    (fc_words_of : PySem.W.codeIn K cd_words_of "words_of" = true)
    (fk_words_of : PySem.W.keepIn K (.ref f_words_of) = true)
    (fa_is_name : PySem.W.nsIn K mainGlobals "is_name" = some (some (.ref f_is_name)))
    (fl_is_name : K.lookup f_is_name = some ⟨oc_is_name, od_is_name, .func (PySem.W.fnOf "is_name" "is_name" (defArgs s_is_name) (defBody s_is_name) (defScope s_is_name) .none kV_is_name dc_is_name pm_is_name an_is_name (.ref c_is_name) ct_is_name), sl_is_name⟩)
    (fc_is_name : PySem.W.codeIn K (.ref c_is_name) "is_name" = true)
    (fk_is_name : PySem.W.keepIn K (.ref f_is_name) = true)
    (tk_is_name : K.lookup c_is_name = some ⟨tq_is_name, tr_is_name, .fields tv_is_name, ts_is_name⟩)
    (tp_is_name : tv_is_name[11]? = some (.ref P_is_name))
    (tn_is_name : K.lookup P_is_name = none)
    (fa_read_facts : PySem.W.nsIn K mainGlobals "read_facts" = some (some (.ref f_read_facts)))
    (fl_read_facts : K.lookup f_read_facts = some ⟨oc_read_facts, od_read_facts, .func (PySem.W.fnOf "read_facts" "read_facts" (defArgs s_read_facts) (defBody s_read_facts) (defScope s_read_facts) .none kV_read_facts dc_read_facts pm_read_facts an_read_facts cd_read_facts ct_read_facts), sl_read_facts⟩)
    (fc_read_facts : PySem.W.codeIn K cd_read_facts "read_facts" = true)
    (fk_read_facts : PySem.W.keepIn K (.ref f_read_facts) = true)
    (fa_read_fact : PySem.W.nsIn K mainGlobals "read_fact" = some (some (.ref f_read_fact)))
    (fl_read_fact : K.lookup f_read_fact = some ⟨oc_read_fact, od_read_fact, .func (PySem.W.fnOf "read_fact" "read_fact" (defArgs s_read_fact) (defBody s_read_fact) (defScope s_read_fact) .none kV_read_fact dc_read_fact pm_read_fact an_read_fact cd_read_fact ct_read_fact), sl_read_fact⟩)
    (fc_read_fact : PySem.W.codeIn K cd_read_fact "read_fact" = true)
    (fk_read_fact : PySem.W.keepIn K (.ref f_read_fact) = true)
    (fa_read_table : PySem.W.nsIn K mainGlobals "read_table" = some (some (.ref f_read_table)))
    (fl_read_table : K.lookup f_read_table = some ⟨oc_read_table, od_read_table, .func (PySem.W.fnOf "read_table" "read_table" (defArgs s_read_table) (defBody s_read_table) (defScope s_read_table) .none kV_read_table dc_read_table pm_read_table an_read_table cd_read_table ct_read_table), sl_read_table⟩)
    (fc_read_table : PySem.W.codeIn K cd_read_table "read_table" = true)
    (fk_read_table : PySem.W.keepIn K (.ref f_read_table) = true)
    (fa_read_column : PySem.W.nsIn K mainGlobals "read_column" = some (some (.ref f_read_column)))
    (fl_read_column : K.lookup f_read_column = some ⟨oc_read_column, od_read_column, .func (PySem.W.fnOf "read_column" "read_column" (defArgs s_read_column) (defBody s_read_column) (defScope s_read_column) .none kV_read_column dc_read_column pm_read_column an_read_column cd_read_column ct_read_column), sl_read_column⟩)
    (fc_read_column : PySem.W.codeIn K cd_read_column "read_column" = true)
    (fk_read_column : PySem.W.keepIn K (.ref f_read_column) = true)
    (fa_leads_back : PySem.W.nsIn K mainGlobals "leads_back" = some (some (.ref f_leads_back)))
    (fl_leads_back : K.lookup f_leads_back = some ⟨oc_leads_back, od_leads_back, .func (PySem.W.fnOf "leads_back" "leads_back" (defArgs s_leads_back) (defBody s_leads_back) (defScope s_leads_back) .none kV_leads_back dc_leads_back pm_leads_back an_leads_back (.ref c_leads_back) ct_leads_back), sl_leads_back⟩)
    (fc_leads_back : PySem.W.codeIn K (.ref c_leads_back) "leads_back" = true)
    (fk_leads_back : PySem.W.keepIn K (.ref f_leads_back) = true)
    (tk_leads_back : K.lookup c_leads_back = some ⟨tq_leads_back, tr_leads_back, .fields tv_leads_back, ts_leads_back⟩)
    (tp_leads_back : tv_leads_back[11]? = some (.ref P_leads_back))
    (tn_leads_back : K.lookup P_leads_back = none)
    (fa_column_links : PySem.W.nsIn K mainGlobals "column_links" = some (some (.ref f_column_links)))
    (fl_column_links : K.lookup f_column_links = some ⟨oc_column_links, od_column_links, .func (PySem.W.fnOf "column_links" "column_links" (defArgs s_column_links) (defBody s_column_links) (defScope s_column_links) .none kV_column_links dc_column_links pm_column_links an_column_links cd_column_links ct_column_links), sl_column_links⟩)
    (fc_column_links : PySem.W.codeIn K cd_column_links "column_links" = true)
    (fk_column_links : PySem.W.keepIn K (.ref f_column_links) = true)
    (fa_table_links : PySem.W.nsIn K mainGlobals "table_links" = some (some (.ref f_table_links)))
    (fl_table_links : K.lookup f_table_links = some ⟨oc_table_links, od_table_links, .func (PySem.W.fnOf "table_links" "table_links" (defArgs s_table_links) (defBody s_table_links) (defScope s_table_links) .none kV_table_links dc_table_links pm_table_links an_table_links cd_table_links ct_table_links), sl_table_links⟩)
    (fc_table_links : PySem.W.codeIn K cd_table_links "table_links" = true)
    (fk_table_links : PySem.W.keepIn K (.ref f_table_links) = true)
    (fa_places_of : PySem.W.nsIn K mainGlobals "places_of" = some (some (.ref f_places_of)))
    (fl_places_of : K.lookup f_places_of = some ⟨oc_places_of, od_places_of, .func (PySem.W.fnOf "places_of" "places_of" (defArgs s_places_of) (defBody s_places_of) (defScope s_places_of) .none kV_places_of dc_places_of pm_places_of an_places_of cd_places_of ct_places_of), sl_places_of⟩)
    (fc_places_of : PySem.W.codeIn K cd_places_of "places_of" = true)
    (fk_places_of : PySem.W.keepIn K (.ref f_places_of) = true)
    (fa_follows : PySem.W.nsIn K mainGlobals "follows" = some (some (.ref f_follows)))
    (fl_follows : K.lookup f_follows = some ⟨oc_follows, od_follows, .func (PySem.W.fnOf "follows" "follows" (defArgs s_follows) (defBody s_follows) (defScope s_follows) .none kV_follows dc_follows pm_follows an_follows cd_follows ct_follows), sl_follows⟩)
    (fc_follows : PySem.W.codeIn K cd_follows "follows" = true)
    (fk_follows : PySem.W.keepIn K (.ref f_follows) = true)
    (fa_is_filled : PySem.W.nsIn K mainGlobals "is_filled" = some (some (.ref f_is_filled)))
    (fl_is_filled : K.lookup f_is_filled = some ⟨oc_is_filled, od_is_filled, .func (PySem.W.fnOf "is_filled" "is_filled" (defArgs s_is_filled) (defBody s_is_filled) (defScope s_is_filled) .none kV_is_filled dc_is_filled pm_is_filled an_is_filled (.ref c_is_filled) ct_is_filled), sl_is_filled⟩)
    (fc_is_filled : PySem.W.codeIn K (.ref c_is_filled) "is_filled" = true)
    (fk_is_filled : PySem.W.keepIn K (.ref f_is_filled) = true)
    (tk_is_filled : K.lookup c_is_filled = some ⟨tq_is_filled, tr_is_filled, .fields tv_is_filled, ts_is_filled⟩)
    (tp_is_filled : tv_is_filled[11]? = some (.ref P_is_filled))
    (tn_is_filled : K.lookup P_is_filled = none)
    (fa_is_found : PySem.W.nsIn K mainGlobals "is_found" = some (some (.ref f_is_found)))
    (fl_is_found : K.lookup f_is_found = some ⟨oc_is_found, od_is_found, .func (PySem.W.fnOf "is_found" "is_found" (defArgs s_is_found) (defBody s_is_found) (defScope s_is_found) .none kV_is_found dc_is_found pm_is_found an_is_found cd_is_found ct_is_found), sl_is_found⟩)
    (fc_is_found : PySem.W.codeIn K cd_is_found "is_found" = true)
    (fk_is_found : PySem.W.keepIn K (.ref f_is_found) = true)
    (fa_turned_links : PySem.W.nsIn K mainGlobals "turned_links" = some (some (.ref f_turned_links)))
    (fl_turned_links : K.lookup f_turned_links = some ⟨oc_turned_links, od_turned_links, .func (PySem.W.fnOf "turned_links" "turned_links" (defArgs s_turned_links) (defBody s_turned_links) (defScope s_turned_links) .none kV_turned_links dc_turned_links pm_turned_links an_turned_links cd_turned_links ct_turned_links), sl_turned_links⟩)
    (fc_turned_links : PySem.W.codeIn K cd_turned_links "turned_links" = true)
    (fk_turned_links : PySem.W.keepIn K (.ref f_turned_links) = true)
    (fa_lone_tables : PySem.W.nsIn K mainGlobals "lone_tables" = some (some (.ref f_lone_tables)))
    (fl_lone_tables : K.lookup f_lone_tables = some ⟨oc_lone_tables, od_lone_tables, .func (PySem.W.fnOf "lone_tables" "lone_tables" (defArgs s_lone_tables) (defBody s_lone_tables) (defScope s_lone_tables) .none kV_lone_tables dc_lone_tables pm_lone_tables an_lone_tables cd_lone_tables ct_lone_tables), sl_lone_tables⟩)
    (fc_lone_tables : PySem.W.codeIn K cd_lone_tables "lone_tables" = true)
    (fk_lone_tables : PySem.W.keepIn K (.ref f_lone_tables) = true)
    (fa_is_constant : PySem.W.nsIn K mainGlobals "is_constant" = some (some (.ref f_is_constant)))
    (fl_is_constant : K.lookup f_is_constant = some ⟨oc_is_constant, od_is_constant, .func (PySem.W.fnOf "is_constant" "is_constant" (defArgs s_is_constant) (defBody s_is_constant) (defScope s_is_constant) .none kV_is_constant dc_is_constant pm_is_constant an_is_constant (.ref c_is_constant) ct_is_constant), sl_is_constant⟩)
    (fc_is_constant : PySem.W.codeIn K (.ref c_is_constant) "is_constant" = true)
    (fk_is_constant : PySem.W.keepIn K (.ref f_is_constant) = true)
    (tk_is_constant : K.lookup c_is_constant = some ⟨tq_is_constant, tr_is_constant, .fields tv_is_constant, ts_is_constant⟩)
    (tp_is_constant : tv_is_constant[11]? = some (.ref P_is_constant))
    (tn_is_constant : K.lookup P_is_constant = none)
    (fa_Facts_init : PySem.W.findIn K (.ref C_Facts) "__init__" = some (some (.ref f_Facts_init)))
    (fl_Facts_init : K.lookup f_Facts_init = some ⟨oc_Facts_init, od_Facts_init, .func (PySem.W.fnOf "__init__" "Facts.__init__" (defArgs s_Facts_init) (defBody s_Facts_init) (defScope s_Facts_init) .none kV_Facts_init dc_Facts_init pm_Facts_init an_Facts_init cd_Facts_init ct_Facts_init), sl_Facts_init⟩)
    (fc_Facts_init : PySem.W.codeIn K cd_Facts_init "Facts.__init__" = true)
    (fk_Facts_init : PySem.W.keepIn K (.ref f_Facts_init) = true)
    (fi_Facts_init : PySem.W.isFn K (.ref f_Facts_init) = true)
    (pa_Facts_lines : PySem.W.findIn K (.ref C_Facts) "lines" = some (some (.ref pp_Facts_lines)))
    (pq_Facts_lines : PySem.W.specialIn K (.ref pp_Facts_lines) "__get__" = some (some (.builtin "property.__get__")))
    (pt_Facts_lines : PySem.W.takesIn K (.ref pp_Facts_lines) = some true)
    (pv_Facts_lines : PySem.W.recIn K pp_Facts_lines "property" = some (.ref f_Facts_lines :: rs_Facts_lines))
    (fl_Facts_lines : K.lookup f_Facts_lines = some ⟨oc_Facts_lines, od_Facts_lines, .func (PySem.W.fnOf "lines" "Facts.lines" (defArgs s_Facts_lines) (defBody s_Facts_lines) (defScope s_Facts_lines) .none kV_Facts_lines dc_Facts_lines pm_Facts_lines an_Facts_lines cd_Facts_lines ct_Facts_lines), sl_Facts_lines⟩)
    (fc_Facts_lines : PySem.W.codeIn K cd_Facts_lines "Facts.lines" = true)
    (fk_Facts_lines : PySem.W.keepIn K (.ref f_Facts_lines) = true)
    (fa_Facts_iter : PySem.W.findIn K (.ref C_Facts) "__iter__" = some (some (.ref f_Facts_iter)))
    (fl_Facts_iter : K.lookup f_Facts_iter = some ⟨oc_Facts_iter, od_Facts_iter, .func (PySem.W.fnOf "__iter__" "Facts.__iter__" (defArgs s_Facts_iter) (defBody s_Facts_iter) (defScope s_Facts_iter) .none kV_Facts_iter dc_Facts_iter pm_Facts_iter an_Facts_iter cd_Facts_iter ct_Facts_iter), sl_Facts_iter⟩)
    (fc_Facts_iter : PySem.W.codeIn K cd_Facts_iter "Facts.__iter__" = true)
    (fk_Facts_iter : PySem.W.keepIn K (.ref f_Facts_iter) = true)
    (fi_Facts_iter : PySem.W.isFn K (.ref f_Facts_iter) = true)
    (fa_Facts_contains : PySem.W.findIn K (.ref C_Facts) "__contains__" = some (some (.ref f_Facts_contains)))
    (fl_Facts_contains : K.lookup f_Facts_contains = some ⟨oc_Facts_contains, od_Facts_contains, .func (PySem.W.fnOf "__contains__" "Facts.__contains__" (defArgs s_Facts_contains) (defBody s_Facts_contains) (defScope s_Facts_contains) .none kV_Facts_contains dc_Facts_contains pm_Facts_contains an_Facts_contains cd_Facts_contains ct_Facts_contains), sl_Facts_contains⟩)
    (fc_Facts_contains : PySem.W.codeIn K cd_Facts_contains "Facts.__contains__" = true)
    (fk_Facts_contains : PySem.W.keepIn K (.ref f_Facts_contains) = true)
    (fi_Facts_contains : PySem.W.isFn K (.ref f_Facts_contains) = true)
    (fa_Facts_or : PySem.W.findIn K (.ref C_Facts) "__or__" = some (some (.ref f_Facts_or)))
    (fl_Facts_or : K.lookup f_Facts_or = some ⟨oc_Facts_or, od_Facts_or, .func (PySem.W.fnOf "__or__" "Facts.__or__" (defArgs s_Facts_or) (defBody s_Facts_or) (defScope s_Facts_or) .none kV_Facts_or dc_Facts_or pm_Facts_or an_Facts_or cd_Facts_or ct_Facts_or), sl_Facts_or⟩)
    (fc_Facts_or : PySem.W.codeIn K cd_Facts_or "Facts.__or__" = true)
    (fk_Facts_or : PySem.W.keepIn K (.ref f_Facts_or) = true)
    (fi_Facts_or : PySem.W.isFn K (.ref f_Facts_or) = true)
    (fa_Facts_broken : PySem.W.findIn K (.ref C_Facts) "broken" = some (some (.ref f_Facts_broken)))
    (fl_Facts_broken : K.lookup f_Facts_broken = some ⟨oc_Facts_broken, od_Facts_broken, .func (PySem.W.fnOf "broken" "Facts.broken" (defArgs s_Facts_broken) (defBody s_Facts_broken) (defScope s_Facts_broken) .none kV_Facts_broken dc_Facts_broken pm_Facts_broken an_Facts_broken cd_Facts_broken ct_Facts_broken), sl_Facts_broken⟩)
    (fc_Facts_broken : PySem.W.codeIn K cd_Facts_broken "Facts.broken" = true)
    (fk_Facts_broken : PySem.W.keepIn K (.ref f_Facts_broken) = true)
    (fi_Facts_broken : PySem.W.isFn K (.ref f_Facts_broken) = true)
    (fa_Facts_are_over : PySem.W.findIn K (.ref C_Facts) "are_over" = some (some (.ref f_Facts_are_over)))
    (fl_Facts_are_over : K.lookup f_Facts_are_over = some ⟨oc_Facts_are_over, od_Facts_are_over, .func (PySem.W.fnOf "are_over" "Facts.are_over" (defArgs s_Facts_are_over) (defBody s_Facts_are_over) (defScope s_Facts_are_over) .none kV_Facts_are_over dc_Facts_are_over pm_Facts_are_over an_Facts_are_over cd_Facts_are_over ct_Facts_are_over), sl_Facts_are_over⟩)
    (fc_Facts_are_over : PySem.W.codeIn K cd_Facts_are_over "Facts.are_over" = true)
    (fk_Facts_are_over : PySem.W.keepIn K (.ref f_Facts_are_over) = true)
    (fi_Facts_are_over : PySem.W.isFn K (.ref f_Facts_are_over) = true)
    (fa_Facts_as_read : PySem.W.findIn K (.ref C_Facts) "as_read" = some (some (.ref f_Facts_as_read)))
    (fl_Facts_as_read : K.lookup f_Facts_as_read = some ⟨oc_Facts_as_read, od_Facts_as_read, .func (PySem.W.fnOf "as_read" "Facts.as_read" (defArgs s_Facts_as_read) (defBody s_Facts_as_read) (defScope s_Facts_as_read) .none kV_Facts_as_read dc_Facts_as_read pm_Facts_as_read an_Facts_as_read cd_Facts_as_read ct_Facts_as_read), sl_Facts_as_read⟩)
    (fc_Facts_as_read : PySem.W.codeIn K cd_Facts_as_read "Facts.as_read" = true)
    (fk_Facts_as_read : PySem.W.keepIn K (.ref f_Facts_as_read) = true)
    (fi_Facts_as_read : PySem.W.isFn K (.ref f_Facts_as_read) = true)
    (fa_Facts_implies : PySem.W.findIn K (.ref C_Facts) "implies" = some (some (.ref f_Facts_implies)))
    (fl_Facts_implies : K.lookup f_Facts_implies = some ⟨oc_Facts_implies, od_Facts_implies, .func (PySem.W.fnOf "implies" "Facts.implies" (defArgs s_Facts_implies) (defBody s_Facts_implies) (defScope s_Facts_implies) .none kV_Facts_implies dc_Facts_implies pm_Facts_implies an_Facts_implies cd_Facts_implies ct_Facts_implies), sl_Facts_implies⟩)
    (fc_Facts_implies : PySem.W.codeIn K cd_Facts_implies "Facts.implies" = true)
    (fk_Facts_implies : PySem.W.keepIn K (.ref f_Facts_implies) = true)
    (fi_Facts_implies : PySem.W.isFn K (.ref f_Facts_implies) = true)
    (fa_Schema_init : PySem.W.findIn K (.ref C_Schema) "__init__" = some (some (.ref f_Schema_init)))
    (fl_Schema_init : K.lookup f_Schema_init = some ⟨oc_Schema_init, od_Schema_init, .func (PySem.W.fnOf "__init__" "Schema.__init__" (defArgs s_Schema_init) (defBody s_Schema_init) (defScope s_Schema_init) .none kV_Schema_init dc_Schema_init pm_Schema_init an_Schema_init cd_Schema_init ct_Schema_init), sl_Schema_init⟩)
    (fc_Schema_init : PySem.W.codeIn K cd_Schema_init "Schema.__init__" = true)
    (fk_Schema_init : PySem.W.keepIn K (.ref f_Schema_init) = true)
    (fi_Schema_init : PySem.W.isFn K (.ref f_Schema_init) = true)
    (fa_Schema_columns : PySem.W.findIn K (.ref C_Schema) "columns" = some (some (.ref f_Schema_columns)))
    (fl_Schema_columns : K.lookup f_Schema_columns = some ⟨oc_Schema_columns, od_Schema_columns, .func (PySem.W.fnOf "columns" "Schema.columns" (defArgs s_Schema_columns) (defBody s_Schema_columns) (defScope s_Schema_columns) .none kV_Schema_columns dc_Schema_columns pm_Schema_columns an_Schema_columns cd_Schema_columns ct_Schema_columns), sl_Schema_columns⟩)
    (fc_Schema_columns : PySem.W.codeIn K cd_Schema_columns "Schema.columns" = true)
    (fk_Schema_columns : PySem.W.keepIn K (.ref f_Schema_columns) = true)
    (fi_Schema_columns : PySem.W.isFn K (.ref f_Schema_columns) = true)
    (fa_Schema_fits : PySem.W.findIn K (.ref C_Schema) "fits" = some (some (.ref f_Schema_fits)))
    (fl_Schema_fits : K.lookup f_Schema_fits = some ⟨oc_Schema_fits, od_Schema_fits, .func (PySem.W.fnOf "fits" "Schema.fits" (defArgs s_Schema_fits) (defBody s_Schema_fits) (defScope s_Schema_fits) .none kV_Schema_fits dc_Schema_fits pm_Schema_fits an_Schema_fits cd_Schema_fits ct_Schema_fits), sl_Schema_fits⟩)
    (fc_Schema_fits : PySem.W.codeIn K cd_Schema_fits "Schema.fits" = true)
    (fk_Schema_fits : PySem.W.keepIn K (.ref f_Schema_fits) = true)
    (fi_Schema_fits : PySem.W.isFn K (.ref f_Schema_fits) = true)
    (fa_Schema_check : PySem.W.findIn K (.ref C_Schema) "check" = some (some (.ref f_Schema_check)))
    (fl_Schema_check : K.lookup f_Schema_check = some ⟨oc_Schema_check, od_Schema_check, .func (PySem.W.fnOf "check" "Schema.check" (defArgs s_Schema_check) (defBody s_Schema_check) (defScope s_Schema_check) .none kV_Schema_check dc_Schema_check pm_Schema_check an_Schema_check cd_Schema_check ct_Schema_check), sl_Schema_check⟩)
    (fc_Schema_check : PySem.W.codeIn K cd_Schema_check "Schema.check" = true)
    (fk_Schema_check : PySem.W.keepIn K (.ref f_Schema_check) = true)
    (fi_Schema_check : PySem.W.isFn K (.ref f_Schema_check) = true)
    (fa_declared_tables : PySem.W.nsIn K mainGlobals "declared_tables" = some (some (.ref f_declared_tables)))
    (fl_declared_tables : K.lookup f_declared_tables = some ⟨oc_declared_tables, od_declared_tables, .func (PySem.W.fnOf "declared_tables" "declared_tables" (defArgs s_declared_tables) (defBody s_declared_tables) (defScope s_declared_tables) .none kV_declared_tables dc_declared_tables pm_declared_tables an_declared_tables cd_declared_tables ct_declared_tables), sl_declared_tables⟩)
    (fc_declared_tables : PySem.W.codeIn K cd_declared_tables "declared_tables" = true)
    (fk_declared_tables : PySem.W.keepIn K (.ref f_declared_tables) = true)
    (fa_is_table_line : PySem.W.nsIn K mainGlobals "is_table_line" = some (some (.ref f_is_table_line)))
    (fl_is_table_line : K.lookup f_is_table_line = some ⟨oc_is_table_line, od_is_table_line, .func (PySem.W.fnOf "is_table_line" "is_table_line" (defArgs s_is_table_line) (defBody s_is_table_line) (defScope s_is_table_line) .none kV_is_table_line dc_is_table_line pm_is_table_line an_is_table_line (.ref c_is_table_line) ct_is_table_line), sl_is_table_line⟩)
    (fc_is_table_line : PySem.W.codeIn K (.ref c_is_table_line) "is_table_line" = true)
    (fk_is_table_line : PySem.W.keepIn K (.ref f_is_table_line) = true)
    (tk_is_table_line : K.lookup c_is_table_line = some ⟨tq_is_table_line, tr_is_table_line, .fields tv_is_table_line, ts_is_table_line⟩)
    (tp_is_table_line : tv_is_table_line[11]? = some (.ref P_is_table_line))
    (tn_is_table_line : K.lookup P_is_table_line = none)
    (fa_begun_pen : PySem.W.nsIn K mainGlobals "_law_begun_pen" = some (some (.ref f_begun_pen)))
    (fl_begun_pen : K.lookup f_begun_pen = some ⟨oc_begun_pen, od_begun_pen, .func (PySem.W.fnOf "_law_begun_pen" "_law_begun_pen" (defArgs s_begun_pen) (defBody s_begun_pen) (defScope s_begun_pen) .none kV_begun_pen dc_begun_pen pm_begun_pen an_begun_pen cd_begun_pen ct_begun_pen), sl_begun_pen⟩)
    (fc_begun_pen : PySem.W.codeIn K cd_begun_pen "_law_begun_pen" = true)
    (fk_begun_pen : PySem.W.keepIn K (.ref f_begun_pen) = true)
    (fa_draw : PySem.W.nsIn K mainGlobals "_law_draw" = some (some (.ref f_draw)))
    (fl_draw : K.lookup f_draw = some ⟨oc_draw, od_draw, .func (PySem.W.fnOf "_law_draw" "_law_draw" (defArgs s_draw) (defBody s_draw) (defScope s_draw) .none kV_draw dc_draw pm_draw an_draw cd_draw ct_draw), sl_draw⟩)
    (fc_draw : PySem.W.codeIn K cd_draw "_law_draw" = true)
    (fk_draw : PySem.W.keepIn K (.ref f_draw) = true)
    (fa_pick : PySem.W.nsIn K mainGlobals "_law_pick" = some (some (.ref f_pick)))
    (fl_pick : K.lookup f_pick = some ⟨oc_pick, od_pick, .func (PySem.W.fnOf "_law_pick" "_law_pick" (defArgs s_pick) (defBody s_pick) (defScope s_pick) .none kV_pick dc_pick pm_pick an_pick cd_pick ct_pick), sl_pick⟩)
    (fc_pick : PySem.W.codeIn K cd_pick "_law_pick" = true)
    (fk_pick : PySem.W.keepIn K (.ref f_pick) = true)
    (fa_shuffled : PySem.W.nsIn K mainGlobals "_law_shuffled" = some (some (.ref f_shuffled)))
    (fl_shuffled : K.lookup f_shuffled = some ⟨oc_shuffled, od_shuffled, .func (PySem.W.fnOf "_law_shuffled" "_law_shuffled" (defArgs s_shuffled) (defBody s_shuffled) (defScope s_shuffled) .none kV_shuffled dc_shuffled pm_shuffled an_shuffled cd_shuffled ct_shuffled), sl_shuffled⟩)
    (fc_shuffled : PySem.W.codeIn K cd_shuffled "_law_shuffled" = true)
    (fk_shuffled : PySem.W.keepIn K (.ref f_shuffled) = true)
    (fa_new_names : PySem.W.nsIn K mainGlobals "_law_new_names" = some (some (.ref f_new_names)))
    (fl_new_names : K.lookup f_new_names = some ⟨oc_new_names, od_new_names, .func (PySem.W.fnOf "_law_new_names" "_law_new_names" (defArgs s_new_names) (defBody s_new_names) (defScope s_new_names) .none kV_new_names dc_new_names pm_new_names an_new_names cd_new_names ct_new_names), sl_new_names⟩)
    (fc_new_names : PySem.W.codeIn K cd_new_names "_law_new_names" = true)
    (fk_new_names : PySem.W.keepIn K (.ref f_new_names) = true)
    (fa_columns : PySem.W.nsIn K mainGlobals "_law_columns" = some (some (.ref f_columns)))
    (fl_columns : K.lookup f_columns = some ⟨oc_columns, od_columns, .func (PySem.W.fnOf "_law_columns" "_law_columns" (defArgs s_columns) (defBody s_columns) (defScope s_columns) .none kV_columns dc_columns pm_columns an_columns cd_columns ct_columns), sl_columns⟩)
    (fc_columns : PySem.W.codeIn K cd_columns "_law_columns" = true)
    (fk_columns : PySem.W.keepIn K (.ref f_columns) = true)
    (fa_keeps : PySem.W.nsIn K mainGlobals "_law_keeps" = some (some (.ref f_keeps)))
    (fl_keeps : K.lookup f_keeps = some ⟨oc_keeps, od_keeps, .func (PySem.W.fnOf "_law_keeps" "_law_keeps" (defArgs s_keeps) (defBody s_keeps) (defScope s_keeps) .none kV_keeps dc_keeps pm_keeps an_keeps cd_keeps ct_keeps), sl_keeps⟩)
    (fc_keeps : PySem.W.codeIn K cd_keeps "_law_keeps" = true)
    (fk_keeps : PySem.W.keepIn K (.ref f_keeps) = true)
    (fa_keeps_all : PySem.W.nsIn K mainGlobals "_law_keeps_all" = some (some (.ref f_keeps_all)))
    (fl_keeps_all : K.lookup f_keeps_all = some ⟨oc_keeps_all, od_keeps_all, .func (PySem.W.fnOf "_law_keeps_all" "_law_keeps_all" (defArgs s_keeps_all) (defBody s_keeps_all) (defScope s_keeps_all) .none kV_keeps_all dc_keeps_all pm_keeps_all an_keeps_all cd_keeps_all ct_keeps_all), sl_keeps_all⟩)
    (fc_keeps_all : PySem.W.codeIn K cd_keeps_all "_law_keeps_all" = true)
    (fk_keeps_all : PySem.W.keepIn K (.ref f_keeps_all) = true)
    (fa_schema_text : PySem.W.nsIn K mainGlobals "_law_schema_text" = some (some (.ref f_schema_text)))
    (fl_schema_text : K.lookup f_schema_text = some ⟨oc_schema_text, od_schema_text, .func (PySem.W.fnOf "_law_schema_text" "_law_schema_text" (defArgs s_schema_text) (defBody s_schema_text) (defScope s_schema_text) .none kV_schema_text dc_schema_text pm_schema_text an_schema_text cd_schema_text ct_schema_text), sl_schema_text⟩)
    (fc_schema_text : PySem.W.codeIn K cd_schema_text "_law_schema_text" = true)
    (fk_schema_text : PySem.W.keepIn K (.ref f_schema_text) = true)
    (fa_spot : PySem.W.nsIn K mainGlobals "_law_spot" = some (some (.ref f_spot)))
    (fl_spot : K.lookup f_spot = some ⟨oc_spot, od_spot, .func (PySem.W.fnOf "_law_spot" "_law_spot" (defArgs s_spot) (defBody s_spot) (defScope s_spot) .none kV_spot dc_spot pm_spot an_spot cd_spot ct_spot), sl_spot⟩)
    (fc_spot : PySem.W.codeIn K cd_spot "_law_spot" = true)
    (fk_spot : PySem.W.keepIn K (.ref f_spot) = true)
    (fa_each_once : PySem.W.nsIn K mainGlobals "_law_each_once" = some (some (.ref f_each_once)))
    (fl_each_once : K.lookup f_each_once = some ⟨oc_each_once, od_each_once, .func (PySem.W.fnOf "_law_each_once" "_law_each_once" (defArgs s_each_once) (defBody s_each_once) (defScope s_each_once) .none kV_each_once dc_each_once pm_each_once an_each_once cd_each_once ct_each_once), sl_each_once⟩)
    (fc_each_once : PySem.W.codeIn K cd_each_once "_law_each_once" = true)
    (fk_each_once : PySem.W.keepIn K (.ref f_each_once) = true)
    (fa_fact_tables : PySem.W.nsIn K mainGlobals "_law_fact_tables" = some (some (.ref f_fact_tables)))
    (fl_fact_tables : K.lookup f_fact_tables = some ⟨oc_fact_tables, od_fact_tables, .func (PySem.W.fnOf "_law_fact_tables" "_law_fact_tables" (defArgs s_fact_tables) (defBody s_fact_tables) (defScope s_fact_tables) .none kV_fact_tables dc_fact_tables pm_fact_tables an_fact_tables cd_fact_tables ct_fact_tables), sl_fact_tables⟩)
    (fc_fact_tables : PySem.W.codeIn K cd_fact_tables "_law_fact_tables" = true)
    (fk_fact_tables : PySem.W.keepIn K (.ref f_fact_tables) = true)
    (fa_led_from : PySem.W.nsIn K mainGlobals "_law_led_from" = some (some (.ref f_led_from)))
    (fl_led_from : K.lookup f_led_from = some ⟨oc_led_from, od_led_from, .func (PySem.W.fnOf "_law_led_from" "_law_led_from" (defArgs s_led_from) (defBody s_led_from) (defScope s_led_from) .none kV_led_from dc_led_from pm_led_from an_led_from cd_led_from ct_led_from), sl_led_from⟩)
    (fc_led_from : PySem.W.codeIn K cd_led_from "_law_led_from" = true)
    (fk_led_from : PySem.W.keepIn K (.ref f_led_from) = true)
    (fa_filled : PySem.W.nsIn K mainGlobals "_law_filled" = some (some (.ref f_filled)))
    (fl_filled : K.lookup f_filled = some ⟨oc_filled, od_filled, .func (PySem.W.fnOf "_law_filled" "_law_filled" (defArgs s_filled) (defBody s_filled) (defScope s_filled) .none kV_filled dc_filled pm_filled an_filled cd_filled ct_filled), sl_filled⟩)
    (fc_filled : PySem.W.codeIn K cd_filled "_law_filled" = true)
    (fk_filled : PySem.W.keepIn K (.ref f_filled) = true)
    (fa_found_pairs : PySem.W.nsIn K mainGlobals "_law_found_pairs" = some (some (.ref f_found_pairs)))
    (fl_found_pairs : K.lookup f_found_pairs = some ⟨oc_found_pairs, od_found_pairs, .func (PySem.W.fnOf "_law_found_pairs" "_law_found_pairs" (defArgs s_found_pairs) (defBody s_found_pairs) (defScope s_found_pairs) .none kV_found_pairs dc_found_pairs pm_found_pairs an_found_pairs cd_found_pairs ct_found_pairs), sl_found_pairs⟩)
    (fc_found_pairs : PySem.W.codeIn K cd_found_pairs "_law_found_pairs" = true)
    (fk_found_pairs : PySem.W.keepIn K (.ref f_found_pairs) = true)
    (fa_fixed : PySem.W.nsIn K mainGlobals "_law_fixed" = some (some (.ref f_fixed)))
    (fl_fixed : K.lookup f_fixed = some ⟨oc_fixed, od_fixed, .func (PySem.W.fnOf "_law_fixed" "_law_fixed" (defArgs s_fixed) (defBody s_fixed) (defScope s_fixed) .none kV_fixed dc_fixed pm_fixed an_fixed cd_fixed ct_fixed), sl_fixed⟩)
    (fc_fixed : PySem.W.codeIn K cd_fixed "_law_fixed" = true)
    (fk_fixed : PySem.W.keepIn K (.ref f_fixed) = true)
    (fa_same_value : PySem.W.nsIn K mainGlobals "_law_same_value" = some (some (.ref f_same_value)))
    (fl_same_value : K.lookup f_same_value = some ⟨oc_same_value, od_same_value, .func (PySem.W.fnOf "_law_same_value" "_law_same_value" (defArgs s_same_value) (defBody s_same_value) (defScope s_same_value) .none kV_same_value dc_same_value pm_same_value an_same_value cd_same_value ct_same_value), sl_same_value⟩)
    (fc_same_value : PySem.W.codeIn K cd_same_value "_law_same_value" = true)
    (fk_same_value : PySem.W.keepIn K (.ref f_same_value) = true)
    (fa_found_implied : PySem.W.nsIn K mainGlobals "_law_found_implied" = some (some (.ref f_found_implied)))
    (fl_found_implied : K.lookup f_found_implied = some ⟨oc_found_implied, od_found_implied, .func (PySem.W.fnOf "_law_found_implied" "_law_found_implied" (defArgs s_found_implied) (defBody s_found_implied) (defScope s_found_implied) .none kV_found_implied dc_found_implied pm_found_implied an_found_implied cd_found_implied ct_found_implied), sl_found_implied⟩)
    (fc_found_implied : PySem.W.codeIn K cd_found_implied "_law_found_implied" = true)
    (fk_found_implied : PySem.W.keepIn K (.ref f_found_implied) = true)
    (fa_implied : PySem.W.nsIn K mainGlobals "_law_implied" = some (some (.ref f_implied)))
    (fl_implied : K.lookup f_implied = some ⟨oc_implied, od_implied, .func (PySem.W.fnOf "_law_implied" "_law_implied" (defArgs s_implied) (defBody s_implied) (defScope s_implied) .none kV_implied dc_implied pm_implied an_implied cd_implied ct_implied), sl_implied⟩)
    (fc_implied : PySem.W.codeIn K cd_implied "_law_implied" = true)
    (fk_implied : PySem.W.keepIn K (.ref f_implied) = true)
    (fa_linked_facts : PySem.W.nsIn K mainGlobals "_law_linked_facts" = some (some (.ref f_linked_facts)))
    (fl_linked_facts : K.lookup f_linked_facts = some ⟨oc_linked_facts, od_linked_facts, .func (PySem.W.fnOf "_law_linked_facts" "_law_linked_facts" (defArgs s_linked_facts) (defBody s_linked_facts) (defScope s_linked_facts) .none kV_linked_facts dc_linked_facts pm_linked_facts an_linked_facts cd_linked_facts ct_linked_facts), sl_linked_facts⟩)
    (fc_linked_facts : PySem.W.codeIn K cd_linked_facts "_law_linked_facts" = true)
    (fk_linked_facts : PySem.W.keepIn K (.ref f_linked_facts) = true)
    (fa_some_of : PySem.W.nsIn K mainGlobals "_law_some_of" = some (some (.ref f_some_of)))
    (fl_some_of : K.lookup f_some_of = some ⟨oc_some_of, od_some_of, .func (PySem.W.fnOf "_law_some_of" "_law_some_of" (defArgs s_some_of) (defBody s_some_of) (defScope s_some_of) .none kV_some_of dc_some_of pm_some_of an_some_of cd_some_of ct_some_of), sl_some_of⟩)
    (fc_some_of : PySem.W.codeIn K cd_some_of "_law_some_of" = true)
    (fk_some_of : PySem.W.keepIn K (.ref f_some_of) = true)
    (fa_all_lines : PySem.W.nsIn K mainGlobals "_law_all_lines" = some (some (.ref f_all_lines)))
    (fl_all_lines : K.lookup f_all_lines = some ⟨oc_all_lines, od_all_lines, .func (PySem.W.fnOf "_law_all_lines" "_law_all_lines" (defArgs s_all_lines) (defBody s_all_lines) (defScope s_all_lines) .none kV_all_lines dc_all_lines pm_all_lines an_all_lines cd_all_lines ct_all_lines), sl_all_lines⟩)
    (fc_all_lines : PySem.W.codeIn K cd_all_lines "_law_all_lines" = true)
    (fk_all_lines : PySem.W.keepIn K (.ref f_all_lines) = true)
    (fa_small_rows : PySem.W.nsIn K mainGlobals "_law_small_rows" = some (some (.ref f_small_rows)))
    (fl_small_rows : K.lookup f_small_rows = some ⟨oc_small_rows, od_small_rows, .func (PySem.W.fnOf "_law_small_rows" "_law_small_rows" (defArgs s_small_rows) (defBody s_small_rows) (defScope s_small_rows) .none kV_small_rows dc_small_rows pm_small_rows an_small_rows cd_small_rows ct_small_rows), sl_small_rows⟩)
    (fc_small_rows : PySem.W.codeIn K cd_small_rows "_law_small_rows" = true)
    (fk_small_rows : PySem.W.keepIn K (.ref f_small_rows) = true)
    (fa_linked_tables : PySem.W.nsIn K mainGlobals "_law_linked_tables" = some (some (.ref f_linked_tables)))
    (fl_linked_tables : K.lookup f_linked_tables = some ⟨oc_linked_tables, od_linked_tables, .func (PySem.W.fnOf "_law_linked_tables" "_law_linked_tables" (defArgs s_linked_tables) (defBody s_linked_tables) (defScope s_linked_tables) .none kV_linked_tables dc_linked_tables pm_linked_tables an_linked_tables cd_linked_tables ct_linked_tables), sl_linked_tables⟩)
    (fc_linked_tables : PySem.W.codeIn K cd_linked_tables "_law_linked_tables" = true)
    (fk_linked_tables : PySem.W.keepIn K (.ref f_linked_tables) = true)
    (fa_hand_right : PySem.W.nsIn K mainGlobals "_law_hand_right" = some (some (.ref f_hand_right)))
    (fl_hand_right : K.lookup f_hand_right = some ⟨oc_hand_right, od_hand_right, .func (PySem.W.fnOf "_law_hand_right" "_law_hand_right" (defArgs s_hand_right) (defBody s_hand_right) (defScope s_hand_right) .none kV_hand_right dc_hand_right pm_hand_right an_hand_right cd_hand_right ct_hand_right), sl_hand_right⟩)
    (fc_hand_right : PySem.W.codeIn K cd_hand_right "_law_hand_right" = true)
    (fk_hand_right : PySem.W.keepIn K (.ref f_hand_right) = true)
    (fa_law : PySem.W.nsIn K mainGlobals "law" = some (some (.ref f_law)))
    (fl_law : K.lookup f_law = some ⟨oc_law, od_law, .func (PySem.W.fnOf "law" "law" (defArgs s_law) (defBody s_law) (defScope s_law) .none kV_law dc_law pm_law an_law cd_law ct_law), sl_law⟩)
    (fc_law : PySem.W.codeIn K cd_law "law" = true)
    (fk_law : PySem.W.keepIn K (.ref f_law) = true)
    : TX K mg where
  z_all := PySem.W.mg_none_of X G z_all
  z_len := PySem.W.mg_none_of X G z_len
  z_enumerate := PySem.W.mg_none_of X G z_enumerate
  z_any := PySem.W.mg_none_of X G z_any
  z_property := PySem.W.mg_none_of X G z_property
  z_list := PySem.W.mg_none_of X G z_list
  z_iter := PySem.W.mg_none_of X G z_iter
  z_tuple := PySem.W.mg_none_of X G z_tuple
  z_set := PySem.W.mg_none_of X G z_set
  z_int := PySem.W.mg_none_of X G z_int
  z_abs := PySem.W.mg_none_of X G z_abs
  z_sorted := PySem.W.mg_none_of X G z_sorted
  z_range := PySem.W.mg_none_of X G z_range
  z_min := PySem.W.mg_none_of X G z_min
  z_repr := PySem.W.mg_none_of X G z_repr
  c_LETTERS := ⟨_, PySem.W.mg_of X G c_LETTERS⟩
  c_LONGEST_NAME := ⟨_, PySem.W.mg_of X G c_LONGEST_NAME⟩
  a_RESERVED := A_RESERVED
  c_RESERVED := PySem.W.mg_of X G c_RESERVED
  v_RESERVED := ⟨_, _, _, _, (.cons ⟨_, rfl⟩ (.cons ⟨_, rfl⟩ (.cons ⟨_, rfl⟩ (.cons ⟨_, rfl⟩ (.cons ⟨_, rfl⟩ (.cons ⟨_, rfl⟩ (.cons ⟨_, rfl⟩ (.cons ⟨_, rfl⟩ (.cons ⟨_, rfl⟩ (.cons ⟨_, rfl⟩ (.cons ⟨_, rfl⟩ (.cons ⟨_, rfl⟩ (.cons ⟨_, rfl⟩ (.cons ⟨_, rfl⟩ (.cons ⟨_, rfl⟩ (.cons ⟨_, rfl⟩ (.cons ⟨_, rfl⟩ (.cons ⟨_, rfl⟩ (.cons ⟨_, rfl⟩ (.cons ⟨_, rfl⟩ (.cons ⟨_, rfl⟩ (.cons ⟨_, rfl⟩ (.cons ⟨_, rfl⟩ (.cons ⟨_, rfl⟩ (.cons ⟨_, rfl⟩ (.cons ⟨_, rfl⟩ (.cons ⟨_, rfl⟩ (.cons ⟨_, rfl⟩ (.cons ⟨_, rfl⟩ (.cons ⟨_, rfl⟩ .nil)))))))))))))))))))))))))))))), v_RESERVED⟩
  a_OF_TABLES := A_OF_TABLES
  c_OF_TABLES := PySem.W.mg_of X G c_OF_TABLES
  v_OF_TABLES := ⟨_, _, _, _, (.cons ⟨_, rfl⟩ (.cons ⟨_, rfl⟩ .nil)), v_OF_TABLES⟩
  a_OF_COLUMNS := A_OF_COLUMNS
  c_OF_COLUMNS := PySem.W.mg_of X G c_OF_COLUMNS
  v_OF_COLUMNS := ⟨_, _, _, _, (.cons ⟨_, rfl⟩ (.cons ⟨_, rfl⟩ .nil)), v_OF_COLUMNS⟩
  c_MOST_TABLES := ⟨_, PySem.W.mg_of X G c_MOST_TABLES⟩
  c_MOST_COLUMNS := ⟨_, PySem.W.mg_of X G c_MOST_COLUMNS⟩
  e_LookError := xe_LookError
  x_LookError := ⟨C_LookError, PySem.W.mg_of X G xa_LookError, ⟨_, _, _, _, _, _, _, _, _, _, _, _, _, xl_LookError⟩, rfl, xs_LookError, xg_LookError, xt_LookError, xc_LookError, xk_LookError, gn, gt⟩
  x_BadFact := ⟨C_BadFact, PySem.W.mg_of X G xa_BadFact, ⟨_, _, _, _, _, _, _, _, _, _, _, _, _, xl_BadFact⟩, rfl, xs_BadFact, xg_BadFact, xt_BadFact, xc_BadFact, xk_BadFact, gn, gt⟩
  x_BadProgram := ⟨C_BadProgram, PySem.W.mg_of X G xa_BadProgram, ⟨_, _, _, _, _, _, _, _, _, _, _, _, _, xl_BadProgram⟩, rfl, xs_BadProgram, xg_BadProgram, xt_BadProgram, xc_BadProgram, xk_BadProgram, gn, gt⟩
  e_OtherTables := xe_OtherTables
  x_OtherTables := ⟨C_OtherTables, PySem.W.mg_of X G xa_OtherTables, ⟨_, _, _, _, _, _, _, _, _, _, _, _, _, xl_OtherTables⟩, rfl, xs_OtherTables, xg_OtherTables, xt_OtherTables, xc_OtherTables, xk_OtherTables, gn, gt⟩
  x_NoName := ⟨C_NoName, PySem.W.mg_of X G xa_NoName, ⟨_, _, _, _, _, _, _, _, _, _, _, _, _, xl_NoName⟩, rfl, xs_NoName, xg_NoName, xt_NoName, xc_NoName, xk_NoName, gn, gt⟩
  C_Facts := C_Facts
  g_Facts := PySem.W.mg_of X G ca_Facts
  cl_Facts := ⟨pg_Facts, hd_Facts, po_Facts, sa_Facts⟩
  n_Facts__schema := nf_Facts__schema
  n_Facts__facts := nf_Facts__facts
  C_Schema := C_Schema
  g_Schema := PySem.W.mg_of X G ca_Schema
  cl_Schema := ⟨pg_Schema, hd_Schema, po_Schema, sa_Schema⟩
  n_Schema__columns := nf_Schema__columns
  n_Schema_tables := nf_Schema_tables
  a_wall := f_wall
  fd_wall := _
  F_wall := fun_mk (st := s_wall) fl_wall fc_wall fk_wall
  b_wall := (fun_mk (st := s_wall) fl_wall fc_wall fk_wall).binds (ps := p_wall) fun _ _ _ _ _ _ us hl => match us, hl with | [_], _ => rfl
  g_wall := PySem.W.mg_of X G fa_wall
  a_BadFact_init := f_BadFact_init
  fd_BadFact_init := _
  F_BadFact_init := fun_mk (st := s_BadFact_init) fl_BadFact_init fc_BadFact_init fk_BadFact_init
  b_BadFact_init := (fun_mk (st := s_BadFact_init) fl_BadFact_init fc_BadFact_init fk_BadFact_init).binds (ps := p_BadFact_init) fun _ _ _ _ _ _ us hl => match us, hl with | [_, _], _ => rfl
  i_BadFact_init := fa_BadFact_init
  t_BadFact_init := ft_BadFact_init
  f_BadFact_init_index := fn_BadFact_init_index
  a_BadProgram_init := f_BadProgram_init
  fd_BadProgram_init := _
  F_BadProgram_init := fun_mk (st := s_BadProgram_init) fl_BadProgram_init fc_BadProgram_init fk_BadProgram_init
  b_BadProgram_init := (fun_mk (st := s_BadProgram_init) fl_BadProgram_init fc_BadProgram_init fk_BadProgram_init).binds (ps := p_BadProgram_init) fun _ _ _ _ _ _ us hl => match us, hl with | [_, _], _ => rfl
  i_BadProgram_init := fa_BadProgram_init
  t_BadProgram_init := ft_BadProgram_init
  f_BadProgram_init_line := fn_BadProgram_init_line
  a_NoName_init := f_NoName_init
  fd_NoName_init := _
  F_NoName_init := fun_mk (st := s_NoName_init) fl_NoName_init fc_NoName_init fk_NoName_init
  b_NoName_init := (fun_mk (st := s_NoName_init) fl_NoName_init fc_NoName_init fk_NoName_init).binds (ps := p_NoName_init) fun _ _ _ _ _ _ us hl => match us, hl with | [_, _], _ => rfl
  i_NoName_init := fa_NoName_init
  t_NoName_init := ft_NoName_init
  f_NoName_init_name := fn_NoName_init_name
  a_reached := f_reached
  fd_reached := _
  F_reached := fun_mk (st := s_reached) fl_reached fc_reached fk_reached
  b_reached := (fun_mk (st := s_reached) fl_reached fc_reached fk_reached).binds (ps := p_reached) fun _ _ _ _ _ _ us hl => match us, hl with | [_, _], _ => rfl
  g_reached := PySem.W.mg_of X G fa_reached
  a_lines_of := f_lines_of
  fd_lines_of := _
  F_lines_of := fun_mk (st := s_lines_of) fl_lines_of fc_lines_of fk_lines_of
  b_lines_of := (fun_mk (st := s_lines_of) fl_lines_of fc_lines_of fk_lines_of).binds (ps := p_lines_of) fun _ _ _ _ _ _ us hl => match us, hl with | [_], _ => rfl
  g_lines_of := PySem.W.mg_of X G fa_lines_of
  a_words_of := f_words_of
  fd_words_of := _
  F_words_of := fun_mk (st := s_words_of) fl_words_of fc_words_of fk_words_of
  b_words_of := (fun_mk (st := s_words_of) fl_words_of fc_words_of fk_words_of).binds (ps := p_words_of) fun _ _ _ _ _ _ us hl => match us, hl with | [_], _ => rfl
  g_words_of := PySem.W.mg_of X G fa_words_of
  tn_is_name := tn_is_name
  c_is_name := c_is_name
  P_is_name := P_is_name
  t_is_name := rfl
  tb_is_name := L2.Gq.tabIn_of fa_is_name fl_is_name rfl tk_is_name tp_is_name
  a_is_name := f_is_name
  fd_is_name := _
  F_is_name := fun_mk (st := s_is_name) fl_is_name fc_is_name fk_is_name
  b_is_name := (fun_mk (st := s_is_name) fl_is_name fc_is_name fk_is_name).binds (ps := p_is_name) fun _ _ _ _ _ _ us hl => match us, hl with | [_], _ => rfl
  g_is_name := PySem.W.mg_of X G fa_is_name
  a_read_facts := f_read_facts
  fd_read_facts := _
  F_read_facts := fun_mk (st := s_read_facts) fl_read_facts fc_read_facts fk_read_facts
  b_read_facts := (fun_mk (st := s_read_facts) fl_read_facts fc_read_facts fk_read_facts).binds (ps := p_read_facts) fun _ _ _ _ _ _ us hl => match us, hl with | [_, _], _ => rfl
  g_read_facts := PySem.W.mg_of X G fa_read_facts
  a_read_fact := f_read_fact
  fd_read_fact := _
  F_read_fact := fun_mk (st := s_read_fact) fl_read_fact fc_read_fact fk_read_fact
  b_read_fact := (fun_mk (st := s_read_fact) fl_read_fact fc_read_fact fk_read_fact).binds (ps := p_read_fact) fun _ _ _ _ _ _ us hl => match us, hl with | [_, _], _ => rfl
  g_read_fact := PySem.W.mg_of X G fa_read_fact
  a_read_table := f_read_table
  fd_read_table := _
  F_read_table := fun_mk (st := s_read_table) fl_read_table fc_read_table fk_read_table
  b_read_table := (fun_mk (st := s_read_table) fl_read_table fc_read_table fk_read_table).binds (ps := p_read_table) fun _ _ _ _ _ _ us hl => match us, hl with | [_, _], _ => rfl
  g_read_table := PySem.W.mg_of X G fa_read_table
  a_read_column := f_read_column
  fd_read_column := _
  F_read_column := fun_mk (st := s_read_column) fl_read_column fc_read_column fk_read_column
  b_read_column := (fun_mk (st := s_read_column) fl_read_column fc_read_column fk_read_column).binds (ps := p_read_column) fun _ _ _ _ _ _ us hl => match us, hl with | [_, _], _ => rfl
  g_read_column := PySem.W.mg_of X G fa_read_column
  tn_leads_back := tn_leads_back
  c_leads_back := c_leads_back
  P_leads_back := P_leads_back
  t_leads_back := rfl
  tb_leads_back := L2.Gq.tabIn_of fa_leads_back fl_leads_back rfl tk_leads_back tp_leads_back
  a_leads_back := f_leads_back
  fd_leads_back := _
  F_leads_back := fun_mk (st := s_leads_back) fl_leads_back fc_leads_back fk_leads_back
  b_leads_back := (fun_mk (st := s_leads_back) fl_leads_back fc_leads_back fk_leads_back).binds (ps := p_leads_back) fun _ _ _ _ _ _ us hl => match us, hl with | [_, _], _ => rfl
  g_leads_back := PySem.W.mg_of X G fa_leads_back
  a_column_links := f_column_links
  fd_column_links := _
  F_column_links := fun_mk (st := s_column_links) fl_column_links fc_column_links fk_column_links
  b_column_links := (fun_mk (st := s_column_links) fl_column_links fc_column_links fk_column_links).binds (ps := p_column_links) fun _ _ _ _ _ _ us hl => match us, hl with | [_], _ => rfl
  g_column_links := PySem.W.mg_of X G fa_column_links
  a_table_links := f_table_links
  fd_table_links := _
  F_table_links := fun_mk (st := s_table_links) fl_table_links fc_table_links fk_table_links
  b_table_links := (fun_mk (st := s_table_links) fl_table_links fc_table_links fk_table_links).binds (ps := p_table_links) fun _ _ _ _ _ _ us hl => match us, hl with | [_], _ => rfl
  g_table_links := PySem.W.mg_of X G fa_table_links
  a_places_of := f_places_of
  fd_places_of := _
  F_places_of := fun_mk (st := s_places_of) fl_places_of fc_places_of fk_places_of
  b_places_of := (fun_mk (st := s_places_of) fl_places_of fc_places_of fk_places_of).binds (ps := p_places_of) fun _ _ _ _ _ _ us hl => match us, hl with | [_, _], _ => rfl
  g_places_of := PySem.W.mg_of X G fa_places_of
  a_follows := f_follows
  fd_follows := _
  F_follows := fun_mk (st := s_follows) fl_follows fc_follows fk_follows
  b_follows := (fun_mk (st := s_follows) fl_follows fc_follows fk_follows).binds (ps := p_follows) fun _ _ _ _ _ _ us hl => match us, hl with | [_, _], _ => rfl
  g_follows := PySem.W.mg_of X G fa_follows
  tn_is_filled := tn_is_filled
  c_is_filled := c_is_filled
  P_is_filled := P_is_filled
  t_is_filled := rfl
  tb_is_filled := L2.Gq.tabIn_of fa_is_filled fl_is_filled rfl tk_is_filled tp_is_filled
  a_is_filled := f_is_filled
  fd_is_filled := _
  F_is_filled := fun_mk (st := s_is_filled) fl_is_filled fc_is_filled fk_is_filled
  b_is_filled := (fun_mk (st := s_is_filled) fl_is_filled fc_is_filled fk_is_filled).binds (ps := p_is_filled) fun _ _ _ _ _ _ us hl => match us, hl with | [_, _], _ => rfl
  g_is_filled := PySem.W.mg_of X G fa_is_filled
  a_is_found := f_is_found
  fd_is_found := _
  F_is_found := fun_mk (st := s_is_found) fl_is_found fc_is_found fk_is_found
  b_is_found := (fun_mk (st := s_is_found) fl_is_found fc_is_found fk_is_found).binds (ps := p_is_found) fun _ _ _ _ _ _ us hl => match us, hl with | [_, _, _], _ => rfl
  g_is_found := PySem.W.mg_of X G fa_is_found
  a_turned_links := f_turned_links
  fd_turned_links := _
  F_turned_links := fun_mk (st := s_turned_links) fl_turned_links fc_turned_links fk_turned_links
  b_turned_links := (fun_mk (st := s_turned_links) fl_turned_links fc_turned_links fk_turned_links).binds (ps := p_turned_links) fun _ _ _ _ _ _ us hl => match us, hl with | [_, _], _ => rfl
  g_turned_links := PySem.W.mg_of X G fa_turned_links
  a_lone_tables := f_lone_tables
  fd_lone_tables := _
  F_lone_tables := fun_mk (st := s_lone_tables) fl_lone_tables fc_lone_tables fk_lone_tables
  b_lone_tables := (fun_mk (st := s_lone_tables) fl_lone_tables fc_lone_tables fk_lone_tables).binds (ps := p_lone_tables) fun _ _ _ _ _ _ us hl => match us, hl with | [_], _ => rfl
  g_lone_tables := PySem.W.mg_of X G fa_lone_tables
  tn_is_constant := tn_is_constant
  c_is_constant := c_is_constant
  P_is_constant := P_is_constant
  t_is_constant := rfl
  tb_is_constant := L2.Gq.tabIn_of fa_is_constant fl_is_constant rfl tk_is_constant tp_is_constant
  a_is_constant := f_is_constant
  fd_is_constant := _
  F_is_constant := fun_mk (st := s_is_constant) fl_is_constant fc_is_constant fk_is_constant
  b_is_constant := (fun_mk (st := s_is_constant) fl_is_constant fc_is_constant fk_is_constant).binds (ps := p_is_constant) fun _ _ _ _ _ _ us hl => match us, hl with | [_, _, _], _ => rfl
  g_is_constant := PySem.W.mg_of X G fa_is_constant
  a_Facts_init := f_Facts_init
  fd_Facts_init := _
  F_Facts_init := fun_mk (st := s_Facts_init) fl_Facts_init fc_Facts_init fk_Facts_init
  b_Facts_init := (fun_mk (st := s_Facts_init) fl_Facts_init fc_Facts_init fk_Facts_init).binds (ps := p_Facts_init) fun _ _ _ _ _ _ us hl => match us, hl with | [_, _, _], _ => rfl
  mk_Facts := ⟨ma_Facts, fa_Facts_init, fi_Facts_init, kc_Facts⟩
  a_Facts_lines := f_Facts_lines
  fd_Facts_lines := _
  F_Facts_lines := fun_mk (st := s_Facts_lines) fl_Facts_lines fc_Facts_lines fk_Facts_lines
  b_Facts_lines := (fun_mk (st := s_Facts_lines) fl_Facts_lines fc_Facts_lines fk_Facts_lines).binds (ps := p_Facts_lines) fun _ _ _ _ _ _ us hl => match us, hl with | [_], _ => rfl
  pp_Facts_lines := pp_Facts_lines
  pr_Facts_lines := ⟨pa_Facts_lines, pq_Facts_lines, pt_Facts_lines, _, pv_Facts_lines⟩
  a_Facts_iter := f_Facts_iter
  fd_Facts_iter := _
  F_Facts_iter := fun_mk (st := s_Facts_iter) fl_Facts_iter fc_Facts_iter fk_Facts_iter
  b_Facts_iter := (fun_mk (st := s_Facts_iter) fl_Facts_iter fc_Facts_iter fk_Facts_iter).binds (ps := p_Facts_iter) fun _ _ _ _ _ _ us hl => match us, hl with | [_], _ => rfl
  io_Facts_iter := ⟨fa_Facts_iter, fi_Facts_iter⟩
  a_Facts_contains := f_Facts_contains
  fd_Facts_contains := _
  F_Facts_contains := fun_mk (st := s_Facts_contains) fl_Facts_contains fc_Facts_contains fk_Facts_contains
  b_Facts_contains := (fun_mk (st := s_Facts_contains) fl_Facts_contains fc_Facts_contains fk_Facts_contains).binds (ps := p_Facts_contains) fun _ _ _ _ _ _ us hl => match us, hl with | [_, _], _ => rfl
  ic_Facts_contains := ⟨fa_Facts_contains, fi_Facts_contains⟩
  a_Facts_or := f_Facts_or
  fd_Facts_or := _
  F_Facts_or := fun_mk (st := s_Facts_or) fl_Facts_or fc_Facts_or fk_Facts_or
  b_Facts_or := (fun_mk (st := s_Facts_or) fl_Facts_or fc_Facts_or fk_Facts_or).binds (ps := p_Facts_or) fun _ _ _ _ _ _ us hl => match us, hl with | [_, _], _ => rfl
  m_Facts_or := ⟨fa_Facts_or, fi_Facts_or, fk_Facts_or⟩
  a_Facts_broken := f_Facts_broken
  fd_Facts_broken := _
  F_Facts_broken := fun_mk (st := s_Facts_broken) fl_Facts_broken fc_Facts_broken fk_Facts_broken
  b_Facts_broken := (fun_mk (st := s_Facts_broken) fl_Facts_broken fc_Facts_broken fk_Facts_broken).binds (ps := p_Facts_broken) fun _ _ _ _ _ _ us hl => match us, hl with | [_, _], _ => rfl
  m_Facts_broken := ⟨fa_Facts_broken, fi_Facts_broken, fk_Facts_broken⟩
  a_Facts_are_over := f_Facts_are_over
  fd_Facts_are_over := _
  F_Facts_are_over := fun_mk (st := s_Facts_are_over) fl_Facts_are_over fc_Facts_are_over fk_Facts_are_over
  b_Facts_are_over := (fun_mk (st := s_Facts_are_over) fl_Facts_are_over fc_Facts_are_over fk_Facts_are_over).binds (ps := p_Facts_are_over) fun _ _ _ _ _ _ us hl => match us, hl with | [_, _], _ => rfl
  m_Facts_are_over := ⟨fa_Facts_are_over, fi_Facts_are_over, fk_Facts_are_over⟩
  a_Facts_as_read := f_Facts_as_read
  fd_Facts_as_read := _
  F_Facts_as_read := fun_mk (st := s_Facts_as_read) fl_Facts_as_read fc_Facts_as_read fk_Facts_as_read
  b_Facts_as_read := (fun_mk (st := s_Facts_as_read) fl_Facts_as_read fc_Facts_as_read fk_Facts_as_read).binds (ps := p_Facts_as_read) fun _ _ _ _ _ _ us hl => match us, hl with | [_], _ => rfl
  m_Facts_as_read := ⟨fa_Facts_as_read, fi_Facts_as_read, fk_Facts_as_read⟩
  a_Facts_implies := f_Facts_implies
  fd_Facts_implies := _
  F_Facts_implies := fun_mk (st := s_Facts_implies) fl_Facts_implies fc_Facts_implies fk_Facts_implies
  b_Facts_implies := (fun_mk (st := s_Facts_implies) fl_Facts_implies fc_Facts_implies fk_Facts_implies).binds (ps := p_Facts_implies) fun _ _ _ _ _ _ us hl => match us, hl with | [_, _], _ => rfl
  m_Facts_implies := ⟨fa_Facts_implies, fi_Facts_implies, fk_Facts_implies⟩
  a_Schema_init := f_Schema_init
  fd_Schema_init := _
  F_Schema_init := fun_mk (st := s_Schema_init) fl_Schema_init fc_Schema_init fk_Schema_init
  b_Schema_init := (fun_mk (st := s_Schema_init) fl_Schema_init fc_Schema_init fk_Schema_init).binds (ps := p_Schema_init) fun _ _ _ _ _ _ us hl => match us, hl with | [_, _], _ => rfl
  mk_Schema := ⟨ma_Schema, fa_Schema_init, fi_Schema_init, kc_Schema⟩
  a_Schema_columns := f_Schema_columns
  fd_Schema_columns := _
  F_Schema_columns := fun_mk (st := s_Schema_columns) fl_Schema_columns fc_Schema_columns fk_Schema_columns
  b_Schema_columns := (fun_mk (st := s_Schema_columns) fl_Schema_columns fc_Schema_columns fk_Schema_columns).binds (ps := p_Schema_columns) fun _ _ _ _ _ _ us hl => match us, hl with | [_, _], _ => rfl
  m_Schema_columns := ⟨fa_Schema_columns, fi_Schema_columns, fk_Schema_columns⟩
  a_Schema_fits := f_Schema_fits
  fd_Schema_fits := _
  F_Schema_fits := fun_mk (st := s_Schema_fits) fl_Schema_fits fc_Schema_fits fk_Schema_fits
  b_Schema_fits := (fun_mk (st := s_Schema_fits) fl_Schema_fits fc_Schema_fits fk_Schema_fits).binds (ps := p_Schema_fits) fun _ _ _ _ _ _ us hl => match us, hl with | [_, _], _ => rfl
  m_Schema_fits := ⟨fa_Schema_fits, fi_Schema_fits, fk_Schema_fits⟩
  a_Schema_check := f_Schema_check
  fd_Schema_check := _
  F_Schema_check := fun_mk (st := s_Schema_check) fl_Schema_check fc_Schema_check fk_Schema_check
  b_Schema_check := (fun_mk (st := s_Schema_check) fl_Schema_check fc_Schema_check fk_Schema_check).binds (ps := p_Schema_check) fun _ _ _ _ _ _ us hl => match us, hl with | [_, _], _ => rfl
  m_Schema_check := ⟨fa_Schema_check, fi_Schema_check, fk_Schema_check⟩
  a_declared_tables := f_declared_tables
  fd_declared_tables := _
  F_declared_tables := fun_mk (st := s_declared_tables) fl_declared_tables fc_declared_tables fk_declared_tables
  b_declared_tables := (fun_mk (st := s_declared_tables) fl_declared_tables fc_declared_tables fk_declared_tables).binds (ps := p_declared_tables) fun _ _ _ _ _ _ us hl => match us, hl with | [_], _ => rfl
  g_declared_tables := PySem.W.mg_of X G fa_declared_tables
  tn_is_table_line := tn_is_table_line
  c_is_table_line := c_is_table_line
  P_is_table_line := P_is_table_line
  t_is_table_line := rfl
  tb_is_table_line := L2.Gq.tabIn_of fa_is_table_line fl_is_table_line rfl tk_is_table_line tp_is_table_line
  a_is_table_line := f_is_table_line
  fd_is_table_line := _
  F_is_table_line := fun_mk (st := s_is_table_line) fl_is_table_line fc_is_table_line fk_is_table_line
  b_is_table_line := (fun_mk (st := s_is_table_line) fl_is_table_line fc_is_table_line fk_is_table_line).binds (ps := p_is_table_line) fun _ _ _ _ _ _ us hl => match us, hl with | [_], _ => rfl
  g_is_table_line := PySem.W.mg_of X G fa_is_table_line
  a_begun_pen := f_begun_pen
  fd_begun_pen := _
  F_begun_pen := fun_mk (st := s_begun_pen) fl_begun_pen fc_begun_pen fk_begun_pen
  b_begun_pen := (fun_mk (st := s_begun_pen) fl_begun_pen fc_begun_pen fk_begun_pen).binds (ps := p_begun_pen) fun _ _ _ _ _ _ us hl => match us, hl with | [_], _ => rfl
  g_begun_pen := PySem.W.mg_of X G fa_begun_pen
  a_draw := f_draw
  fd_draw := _
  F_draw := fun_mk (st := s_draw) fl_draw fc_draw fk_draw
  b_draw := (fun_mk (st := s_draw) fl_draw fc_draw fk_draw).binds (ps := p_draw) fun _ _ _ _ _ _ us hl => match us, hl with | [_, _], _ => rfl
  g_draw := PySem.W.mg_of X G fa_draw
  a_pick := f_pick
  fd_pick := _
  F_pick := fun_mk (st := s_pick) fl_pick fc_pick fk_pick
  b_pick := (fun_mk (st := s_pick) fl_pick fc_pick fk_pick).binds (ps := p_pick) fun _ _ _ _ _ _ us hl => match us, hl with | [_, _], _ => rfl
  g_pick := PySem.W.mg_of X G fa_pick
  a_shuffled := f_shuffled
  fd_shuffled := _
  F_shuffled := fun_mk (st := s_shuffled) fl_shuffled fc_shuffled fk_shuffled
  b_shuffled := (fun_mk (st := s_shuffled) fl_shuffled fc_shuffled fk_shuffled).binds (ps := p_shuffled) fun _ _ _ _ _ _ us hl => match us, hl with | [_, _], _ => rfl
  g_shuffled := PySem.W.mg_of X G fa_shuffled
  a_new_names := f_new_names
  fd_new_names := _
  F_new_names := fun_mk (st := s_new_names) fl_new_names fc_new_names fk_new_names
  b_new_names := (fun_mk (st := s_new_names) fl_new_names fc_new_names fk_new_names).binds (ps := p_new_names) fun _ _ _ _ _ _ us hl => match us, hl with | [_, _], _ => rfl
  g_new_names := PySem.W.mg_of X G fa_new_names
  a_columns := f_columns
  fd_columns := _
  F_columns := fun_mk (st := s_columns) fl_columns fc_columns fk_columns
  b_columns := (fun_mk (st := s_columns) fl_columns fc_columns fk_columns).binds (ps := p_columns) fun _ _ _ _ _ _ us hl => match us, hl with | [_, _], _ => rfl
  g_columns := PySem.W.mg_of X G fa_columns
  a_keeps := f_keeps
  fd_keeps := _
  F_keeps := fun_mk (st := s_keeps) fl_keeps fc_keeps fk_keeps
  b_keeps := (fun_mk (st := s_keeps) fl_keeps fc_keeps fk_keeps).binds (ps := p_keeps) fun _ _ _ _ _ _ us hl => match us, hl with | [_, _, _], _ => rfl
  g_keeps := PySem.W.mg_of X G fa_keeps
  a_keeps_all := f_keeps_all
  fd_keeps_all := _
  F_keeps_all := fun_mk (st := s_keeps_all) fl_keeps_all fc_keeps_all fk_keeps_all
  b_keeps_all := (fun_mk (st := s_keeps_all) fl_keeps_all fc_keeps_all fk_keeps_all).binds (ps := p_keeps_all) fun _ _ _ _ _ _ us hl => match us, hl with | [_, _, _], _ => rfl
  g_keeps_all := PySem.W.mg_of X G fa_keeps_all
  a_schema_text := f_schema_text
  fd_schema_text := _
  F_schema_text := fun_mk (st := s_schema_text) fl_schema_text fc_schema_text fk_schema_text
  b_schema_text := (fun_mk (st := s_schema_text) fl_schema_text fc_schema_text fk_schema_text).binds (ps := p_schema_text) fun _ _ _ _ _ _ us hl => match us, hl with | [_], _ => rfl
  g_schema_text := PySem.W.mg_of X G fa_schema_text
  a_spot := f_spot
  fd_spot := _
  F_spot := fun_mk (st := s_spot) fl_spot fc_spot fk_spot
  b_spot := (fun_mk (st := s_spot) fl_spot fc_spot fk_spot).binds (ps := p_spot) fun _ _ _ _ _ _ us hl => match us, hl with | [_, _], _ => rfl
  g_spot := PySem.W.mg_of X G fa_spot
  a_each_once := f_each_once
  fd_each_once := _
  F_each_once := fun_mk (st := s_each_once) fl_each_once fc_each_once fk_each_once
  b_each_once := (fun_mk (st := s_each_once) fl_each_once fc_each_once fk_each_once).binds (ps := p_each_once) fun _ _ _ _ _ _ us hl => match us, hl with | [_], _ => rfl
  g_each_once := PySem.W.mg_of X G fa_each_once
  a_fact_tables := f_fact_tables
  fd_fact_tables := _
  F_fact_tables := fun_mk (st := s_fact_tables) fl_fact_tables fc_fact_tables fk_fact_tables
  b_fact_tables := (fun_mk (st := s_fact_tables) fl_fact_tables fc_fact_tables fk_fact_tables).binds (ps := p_fact_tables) fun _ _ _ _ _ _ us hl => match us, hl with | [_], _ => rfl
  g_fact_tables := PySem.W.mg_of X G fa_fact_tables
  a_led_from := f_led_from
  fd_led_from := _
  F_led_from := fun_mk (st := s_led_from) fl_led_from fc_led_from fk_led_from
  b_led_from := (fun_mk (st := s_led_from) fl_led_from fc_led_from fk_led_from).binds (ps := p_led_from) fun _ _ _ _ _ _ us hl => match us, hl with | [_, _], _ => rfl
  g_led_from := PySem.W.mg_of X G fa_led_from
  a_filled := f_filled
  fd_filled := _
  F_filled := fun_mk (st := s_filled) fl_filled fc_filled fk_filled
  b_filled := (fun_mk (st := s_filled) fl_filled fc_filled fk_filled).binds (ps := p_filled) fun _ _ _ _ _ _ us hl => match us, hl with | [_], _ => rfl
  g_filled := PySem.W.mg_of X G fa_filled
  a_found_pairs := f_found_pairs
  fd_found_pairs := _
  F_found_pairs := fun_mk (st := s_found_pairs) fl_found_pairs fc_found_pairs fk_found_pairs
  b_found_pairs := (fun_mk (st := s_found_pairs) fl_found_pairs fc_found_pairs fk_found_pairs).binds (ps := p_found_pairs) fun _ _ _ _ _ _ us hl => match us, hl with | [_], _ => rfl
  g_found_pairs := PySem.W.mg_of X G fa_found_pairs
  a_fixed := f_fixed
  fd_fixed := _
  F_fixed := fun_mk (st := s_fixed) fl_fixed fc_fixed fk_fixed
  b_fixed := (fun_mk (st := s_fixed) fl_fixed fc_fixed fk_fixed).binds (ps := p_fixed) fun _ _ _ _ _ _ us hl => match us, hl with | [_, _], _ => rfl
  g_fixed := PySem.W.mg_of X G fa_fixed
  a_same_value := f_same_value
  fd_same_value := _
  F_same_value := fun_mk (st := s_same_value) fl_same_value fc_same_value fk_same_value
  b_same_value := (fun_mk (st := s_same_value) fl_same_value fc_same_value fk_same_value).binds (ps := p_same_value) fun _ _ _ _ _ _ us hl => match us, hl with | [_, _, _, _], _ => rfl
  g_same_value := PySem.W.mg_of X G fa_same_value
  a_found_implied := f_found_implied
  fd_found_implied := _
  F_found_implied := fun_mk (st := s_found_implied) fl_found_implied fc_found_implied fk_found_implied
  b_found_implied := (fun_mk (st := s_found_implied) fl_found_implied fc_found_implied fk_found_implied).binds (ps := p_found_implied) fun _ _ _ _ _ _ us hl => match us, hl with | [_, _, _, _], _ => rfl
  g_found_implied := PySem.W.mg_of X G fa_found_implied
  a_implied := f_implied
  fd_implied := _
  F_implied := fun_mk (st := s_implied) fl_implied fc_implied fk_implied
  b_implied := (fun_mk (st := s_implied) fl_implied fc_implied fk_implied).binds (ps := p_implied) fun _ _ _ _ _ _ us hl => match us, hl with | [_, _, _], _ => rfl
  g_implied := PySem.W.mg_of X G fa_implied
  a_linked_facts := f_linked_facts
  fd_linked_facts := _
  F_linked_facts := fun_mk (st := s_linked_facts) fl_linked_facts fc_linked_facts fk_linked_facts
  b_linked_facts := (fun_mk (st := s_linked_facts) fl_linked_facts fc_linked_facts fk_linked_facts).binds (ps := p_linked_facts) fun _ _ _ _ _ _ us hl => match us, hl with | [_, _], _ => rfl
  g_linked_facts := PySem.W.mg_of X G fa_linked_facts
  a_some_of := f_some_of
  fd_some_of := _
  F_some_of := fun_mk (st := s_some_of) fl_some_of fc_some_of fk_some_of
  b_some_of := (fun_mk (st := s_some_of) fl_some_of fc_some_of fk_some_of).binds (ps := p_some_of) fun _ _ _ _ _ _ us hl => match us, hl with | [_, _, _], _ => rfl
  g_some_of := PySem.W.mg_of X G fa_some_of
  a_all_lines := f_all_lines
  fd_all_lines := _
  F_all_lines := fun_mk (st := s_all_lines) fl_all_lines fc_all_lines fk_all_lines
  b_all_lines := (fun_mk (st := s_all_lines) fl_all_lines fc_all_lines fk_all_lines).binds (ps := p_all_lines) fun _ _ _ _ _ _ us hl => match us, hl with | [_], _ => rfl
  g_all_lines := PySem.W.mg_of X G fa_all_lines
  a_small_rows := f_small_rows
  fd_small_rows := _
  F_small_rows := fun_mk (st := s_small_rows) fl_small_rows fc_small_rows fk_small_rows
  b_small_rows := (fun_mk (st := s_small_rows) fl_small_rows fc_small_rows fk_small_rows).binds (ps := p_small_rows) fun _ _ _ _ _ _ us hl => match us, hl with | [_, _], _ => rfl
  g_small_rows := PySem.W.mg_of X G fa_small_rows
  a_linked_tables := f_linked_tables
  fd_linked_tables := _
  F_linked_tables := fun_mk (st := s_linked_tables) fl_linked_tables fc_linked_tables fk_linked_tables
  b_linked_tables := (fun_mk (st := s_linked_tables) fl_linked_tables fc_linked_tables fk_linked_tables).binds (ps := p_linked_tables) fun _ _ _ _ _ _ us hl => match us, hl with | [_], _ => rfl
  g_linked_tables := PySem.W.mg_of X G fa_linked_tables
  a_hand_right := f_hand_right
  fd_hand_right := _
  F_hand_right := fun_mk (st := s_hand_right) fl_hand_right fc_hand_right fk_hand_right
  b_hand_right := (fun_mk (st := s_hand_right) fl_hand_right fc_hand_right fk_hand_right).binds (ps := p_hand_right) fun _ _ _ _ _ _ us hl => match us, hl with | [_], _ => rfl
  g_hand_right := PySem.W.mg_of X G fa_hand_right
  a_law := f_law
  fd_law := _
  F_law := fun_mk (st := s_law) fl_law fc_law fk_law
  b_law := (fun_mk (st := s_law) fl_law fc_law fk_law).binds (ps := p_law) fun _ _ _ _ _ _ us hl => match us, hl with | [_], _ => rfl
  g_law := PySem.W.mg_of X G fa_law
theorem tabs_in {K : PySem.W.Frag} {mg : Str → Option Value} (T : TX K mg) {b : Addr} : b ∈ tabsOf T ↔ b = T.P_is_name ∨ b = T.P_leads_back ∨ b = T.P_is_filled ∨ b = T.P_is_constant ∨ b = T.P_is_table_line := by
  unfold tabsOf
  simp only [List.mem_cons, List.not_mem_nil, or_false]
/-- what the top has left of the tables -/
structure TT {K : PySem.W.Frag} {mg : Str → Option Value} (T : TX K mg) (q : Program) : Prop where
  r_is_name : ∃ d, (recsOf q).find? (fun e => e.name == ("is_name" : Str)) = some d
  r_leads_back : ∃ d, (recsOf q).find? (fun e => e.name == ("leads_back" : Str)) = some d
  r_is_filled : ∃ d, (recsOf q).find? (fun e => e.name == ("is_filled" : Str)) = some d
  r_is_constant : ∃ d, (recsOf q).find? (fun e => e.name == ("is_constant" : Str)) = some d
  r_is_table_line : ∃ d, (recsOf q).find? (fun e => e.name == ("is_table_line" : Str)) = some d
theorem walk {l : PySem.W.OpenLaw} {q : Program} {loose : List Str} {XP : (Str → Option Value) → Heap → Prop} {YP : World → Heap → Prop} {d : DefRec} {K : Params → PySem.W.Frag} (hn : l.most = some 63) (hdf : d.params.defaults = []) (hnm : d.name = "law") (hr : Room 10 callerA)
    (hY : ∀ (w : World) (h : Heap), YP w h → (K w.params).In h) (F : ∀ (w : World) (mg : Str → Option Value) (h : Heap), (K w.params).In h → h.Ns mainGlobals mg → ∃ T : TX (K w.params) mg, TT T q ∧ ∀ (s : Shared) (u : Value), BindsTo s T.fd_law ⟨[u], []⟩ [("_law_script", u)]) :
    PySem.W.WalkO q loose XP YP l.row.toRowW d [] (fun f vs => PySem.call f vs) := by
  refine L2.Gq.walk_tabs (n := 63) (k := 10) (x := "_law_script") hn (by decide) hdf hr hY fun w s₀ mg mb fa h G KX e => ?_
  obtain ⟨T, Y, hb⟩ := F w mg h KX G.T.g
  have z := e.symm.trans (hnm ▸ T.g_law)
  cases z
  obtain ⟨d_is_name, e_is_name⟩ := Y.r_is_name
  obtain ⟨u_is_name, v_is_name⟩ := PySem.W.tab_of G.T KX e_is_name T.tb_is_name
  obtain ⟨d_leads_back, e_leads_back⟩ := Y.r_leads_back
  obtain ⟨u_leads_back, v_leads_back⟩ := PySem.W.tab_of G.T KX e_leads_back T.tb_leads_back
  obtain ⟨d_is_filled, e_is_filled⟩ := Y.r_is_filled
  obtain ⟨u_is_filled, v_is_filled⟩ := PySem.W.tab_of G.T KX e_is_filled T.tb_is_filled
  obtain ⟨d_is_constant, e_is_constant⟩ := Y.r_is_constant
  obtain ⟨u_is_constant, v_is_constant⟩ := PySem.W.tab_of G.T KX e_is_constant T.tb_is_constant
  obtain ⟨d_is_table_line, e_is_table_line⟩ := Y.r_is_table_line
  obtain ⟨u_is_table_line, v_is_table_line⟩ := PySem.W.tab_of G.T KX e_is_table_line T.tb_is_table_line
  refine ⟨T.fd_law, [(T.c_is_name, T.P_is_name), (T.c_leads_back, T.P_leads_back), (T.c_is_filled, T.P_is_filled), (T.c_is_constant, T.P_is_constant), (T.c_is_table_line, T.P_is_table_line)], _, fun p hp => by
    simp only [List.mem_cons, List.not_mem_nil, or_false] at hp
    rcases hp with rfl | rfl | rfl | rfl | rfl
    · exact v_is_name
    · exact v_leads_back
    · exact v_is_filled
    · exact v_is_constant
    · exact v_is_table_line, fun p hp => by
    simp only [List.mem_cons, List.not_mem_nil, or_false] at hp
    rcases hp with rfl | rfl | rfl | rfl | rfl
    · exact T.tn_is_name
    · exact T.tn_leads_back
    · exact T.tn_is_filled
    · exact T.tn_is_constant
    · exact T.tn_is_table_line, fun p hp => by
    simp only [List.mem_cons, List.not_mem_nil, or_false] at hp
    rcases hp with rfl | rfl | rfl | rfl | rfl
    · exact u_is_name
    · exact u_leads_back
    · exact u_is_filled
    · exact u_is_constant
    · exact u_is_table_line, hb, fun H a ns hl _ hH hS => ?_, fun base _ _ hB => L2.Gq.fn_tabs (tabsOf T) (ok_law T ⟨hB (T.c_is_name, T.P_is_name) (by simp), hB (T.c_leads_back, T.P_leads_back) (by simp), hB (T.c_is_filled, T.P_is_filled) (by simp), hB (T.c_is_constant, T.P_is_constant) (by simp), hB (T.c_is_table_line, T.P_is_table_line) (by simp)⟩)⟩
  have hL : ∀ b ∈ tabsOf T, H b = some (.tbl #[]) := fun b hb => by
    rcases (tabs_in T).mp hb with rfl | rfl | rfl | rfl | rfl
    · exact hH (T.c_is_name, T.P_is_name) (by simp)
    · exact hH (T.c_leads_back, T.P_leads_back) (by simp)
    · exact hH (T.c_is_filled, T.P_is_filled) (by simp)
    · exact hH (T.c_is_constant, T.P_is_constant) (by simp)
    · exact hH (T.c_is_table_line, T.P_is_table_line) (by simp)
  refine ⟨hL, sp_law_ask T hl (fun b hb => L2.Gq.tabH_in hb) ?_⟩
  have hS2 : ∀ o, H a = some o → (∀ ps, o ≠ .tbl ps) → L2.Gq.tabH (tabsOf T) H a = some o := fun o e no => by
    rw [L2.Gq.tabH_out (fun z => by rw [hL a z] at e; cases e; exact no _ rfl)]
    exact e
  rcases hS with (h | ⟨o, h⟩) | h
  · exact .inl (.inl (hS2 _ h fun _ z => by cases z))
  · exact .inl (.inr ⟨o, hS2 _ h fun _ z => by cases z⟩)
  · exact .inr h
end L2.Pf
open PySem PySem.W PyProof.Rows in
set_option maxRecDepth 100000 in
set_option maxHeartbeats 0 in
theorem PySem.Challenge.cw_lookuploops_k13_whole_implied_holds : PySem.Challenge.rw_lookuploops_k13_whole_implied.Holds := by
  w_on; o_law; k_head; (case hw => w_witness2)
  k_fill
  refine L2.Pf.walk (l := PySem.Challenge.rw_lookuploops_k13_whole_implied) rfl rfl rfl ⟨rfl, by decide, by decide⟩ (fun w h Y => PySem.W.kIn_of Y) ?F
  case F =>
    intro w mg h KX G
    refine' ⟨L2.Pf.mk_TX KX G ?z_all ?z_len ?z_enumerate ?z_any ?z_property ?z_list ?z_iter ?z_tuple ?z_set ?z_int ?z_abs ?z_sorted ?z_range ?z_min ?z_repr ?c_LETTERS ?c_LONGEST_NAME ?c_RESERVED ?v_RESERVED ?c_OF_TABLES ?v_OF_TABLES ?c_OF_COLUMNS ?v_OF_COLUMNS ?c_MOST_TABLES ?c_MOST_COLUMNS ?gn ?gt ?xa_LookError ?xl_LookError ?xs_LookError ?xg_LookError ?xt_LookError ?xc_LookError ?xk_LookError ?xe_LookError ?xa_BadFact ?xl_BadFact ?xs_BadFact ?xg_BadFact ?xt_BadFact ?xc_BadFact ?xk_BadFact ?xa_BadProgram ?xl_BadProgram ?xs_BadProgram ?xg_BadProgram ?xt_BadProgram ?xc_BadProgram ?xk_BadProgram ?xa_OtherTables ?xl_OtherTables ?xs_OtherTables ?xg_OtherTables ?xt_OtherTables ?xc_OtherTables ?xk_OtherTables ?xe_OtherTables ?xa_NoName ?xl_NoName ?xs_NoName ?xg_NoName ?xt_NoName ?xc_NoName ?xk_NoName ?ca_Facts ?pg_Facts ?hd_Facts ?po_Facts ?sa_Facts ?ma_Facts ?kc_Facts ?nf_Facts__schema ?nf_Facts__facts ?ca_Schema ?pg_Schema ?hd_Schema ?po_Schema ?sa_Schema ?ma_Schema ?kc_Schema ?nf_Schema__columns ?nf_Schema_tables ?fa_wall ?fl_wall ?fc_wall ?fk_wall ?fa_BadFact_init ?fl_BadFact_init ?fc_BadFact_init ?fk_BadFact_init ?ft_BadFact_init ?fn_BadFact_init_index ?fa_BadProgram_init ?fl_BadProgram_init ?fc_BadProgram_init ?fk_BadProgram_init ?ft_BadProgram_init ?fn_BadProgram_init_line ?fa_NoName_init ?fl_NoName_init ?fc_NoName_init ?fk_NoName_init ?ft_NoName_init ?fn_NoName_init_name ?fa_reached ?fl_reached ?fc_reached ?fk_reached ?fa_lines_of ?fl_lines_of ?fc_lines_of ?fk_lines_of ?fa_words_of ?fl_words_of ?fc_words_of ?fk_words_of ?fa_is_name ?fl_is_name ?fc_is_name ?fk_is_name ?tk_is_name ?tp_is_name ?tn_is_name ?fa_read_facts ?fl_read_facts ?fc_read_facts ?fk_read_facts ?fa_read_fact ?fl_read_fact ?fc_read_fact ?fk_read_fact ?fa_read_table ?fl_read_table ?fc_read_table ?fk_read_table ?fa_read_column ?fl_read_column ?fc_read_column ?fk_read_column ?fa_leads_back ?fl_leads_back ?fc_leads_back ?fk_leads_back ?tk_leads_back ?tp_leads_back ?tn_leads_back ?fa_column_links ?fl_column_links ?fc_column_links ?fk_column_links ?fa_table_links ?fl_table_links ?fc_table_links ?fk_table_links ?fa_places_of ?fl_places_of ?fc_places_of ?fk_places_of ?fa_follows ?fl_follows ?fc_follows ?fk_follows ?fa_is_filled ?fl_is_filled ?fc_is_filled ?fk_is_filled ?tk_is_filled ?tp_is_filled ?tn_is_filled ?fa_is_found ?fl_is_found ?fc_is_found ?fk_is_found ?fa_turned_links ?fl_turned_links ?fc_turned_links ?fk_turned_links ?fa_lone_tables ?fl_lone_tables ?fc_lone_tables ?fk_lone_tables ?fa_is_constant ?fl_is_constant ?fc_is_constant ?fk_is_constant ?tk_is_constant ?tp_is_constant ?tn_is_constant ?fa_Facts_init ?fl_Facts_init ?fc_Facts_init ?fk_Facts_init ?fi_Facts_init ?pa_Facts_lines ?pq_Facts_lines ?pt_Facts_lines ?pv_Facts_lines ?fl_Facts_lines ?fc_Facts_lines ?fk_Facts_lines ?fa_Facts_iter ?fl_Facts_iter ?fc_Facts_iter ?fk_Facts_iter ?fi_Facts_iter ?fa_Facts_contains ?fl_Facts_contains ?fc_Facts_contains ?fk_Facts_contains ?fi_Facts_contains ?fa_Facts_or ?fl_Facts_or ?fc_Facts_or ?fk_Facts_or ?fi_Facts_or ?fa_Facts_broken ?fl_Facts_broken ?fc_Facts_broken ?fk_Facts_broken ?fi_Facts_broken ?fa_Facts_are_over ?fl_Facts_are_over ?fc_Facts_are_over ?fk_Facts_are_over ?fi_Facts_are_over ?fa_Facts_as_read ?fl_Facts_as_read ?fc_Facts_as_read ?fk_Facts_as_read ?fi_Facts_as_read ?fa_Facts_implies ?fl_Facts_implies ?fc_Facts_implies ?fk_Facts_implies ?fi_Facts_implies ?fa_Schema_init ?fl_Schema_init ?fc_Schema_init ?fk_Schema_init ?fi_Schema_init ?fa_Schema_columns ?fl_Schema_columns ?fc_Schema_columns ?fk_Schema_columns ?fi_Schema_columns ?fa_Schema_fits ?fl_Schema_fits ?fc_Schema_fits ?fk_Schema_fits ?fi_Schema_fits ?fa_Schema_check ?fl_Schema_check ?fc_Schema_check ?fk_Schema_check ?fi_Schema_check ?fa_declared_tables ?fl_declared_tables ?fc_declared_tables ?fk_declared_tables ?fa_is_table_line ?fl_is_table_line ?fc_is_table_line ?fk_is_table_line ?tk_is_table_line ?tp_is_table_line ?tn_is_table_line ?fa_begun_pen ?fl_begun_pen ?fc_begun_pen ?fk_begun_pen ?fa_draw ?fl_draw ?fc_draw ?fk_draw ?fa_pick ?fl_pick ?fc_pick ?fk_pick ?fa_shuffled ?fl_shuffled ?fc_shuffled ?fk_shuffled ?fa_new_names ?fl_new_names ?fc_new_names ?fk_new_names ?fa_columns ?fl_columns ?fc_columns ?fk_columns ?fa_keeps ?fl_keeps ?fc_keeps ?fk_keeps ?fa_keeps_all ?fl_keeps_all ?fc_keeps_all ?fk_keeps_all ?fa_schema_text ?fl_schema_text ?fc_schema_text ?fk_schema_text ?fa_spot ?fl_spot ?fc_spot ?fk_spot ?fa_each_once ?fl_each_once ?fc_each_once ?fk_each_once ?fa_fact_tables ?fl_fact_tables ?fc_fact_tables ?fk_fact_tables ?fa_led_from ?fl_led_from ?fc_led_from ?fk_led_from ?fa_filled ?fl_filled ?fc_filled ?fk_filled ?fa_found_pairs ?fl_found_pairs ?fc_found_pairs ?fk_found_pairs ?fa_fixed ?fl_fixed ?fc_fixed ?fk_fixed ?fa_same_value ?fl_same_value ?fc_same_value ?fk_same_value ?fa_found_implied ?fl_found_implied ?fc_found_implied ?fk_found_implied ?fa_implied ?fl_implied ?fc_implied ?fk_implied ?fa_linked_facts ?fl_linked_facts ?fc_linked_facts ?fk_linked_facts ?fa_some_of ?fl_some_of ?fc_some_of ?fk_some_of ?fa_all_lines ?fl_all_lines ?fc_all_lines ?fk_all_lines ?fa_small_rows ?fl_small_rows ?fc_small_rows ?fk_small_rows ?fa_linked_tables ?fl_linked_tables ?fc_linked_tables ?fk_linked_tables ?fa_hand_right ?fl_hand_right ?fc_hand_right ?fk_hand_right ?fa_law ?fl_law ?fc_law ?fk_law, ⟨?tr_is_name, ?tr_leads_back, ?tr_is_filled, ?tr_is_constant, ?tr_is_table_line⟩, fun s v => .of_eq rfl⟩
    (case z_all => k_is)
    (case z_len => k_is)
    (case z_enumerate => k_is)
    (case z_any => k_is)
    (case z_property => k_is)
    (case z_list => k_is)
    (case z_iter => k_is)
    (case z_tuple => k_is)
    (case z_set => k_is)
    (case z_int => k_is)
    (case z_abs => k_is)
    (case z_sorted => k_is)
    (case z_range => k_is)
    (case z_min => k_is)
    (case z_repr => k_is)
    (case c_LETTERS => k_is)
    (case c_LONGEST_NAME => k_is)
    (case c_RESERVED => k_is)
    (case v_RESERVED => k_is)
    (case c_OF_TABLES => k_is)
    (case v_OF_TABLES => k_is)
    (case c_OF_COLUMNS => k_is)
    (case v_OF_COLUMNS => k_is)
    (case c_MOST_TABLES => k_is)
    (case c_MOST_COLUMNS => k_is)
    (case gn => k_is)
    (case gt => k_is)
    (case xa_LookError => k_is)
    (case xl_LookError => k_is)
    (case xs_LookError => k_is)
    (case xg_LookError => k_is)
    (case xt_LookError => k_is)
    (case xc_LookError => k_is)
    (case xk_LookError => k_is)
    (case xe_LookError => k_exc)
    (case xa_BadFact => k_is)
    (case xl_BadFact => k_is)
    (case xs_BadFact => k_is)
    (case xg_BadFact => k_is)
    (case xt_BadFact => k_is)
    (case xc_BadFact => k_is)
    (case xk_BadFact => k_is)
    (case xa_BadProgram => k_is)
    (case xl_BadProgram => k_is)
    (case xs_BadProgram => k_is)
    (case xg_BadProgram => k_is)
    (case xt_BadProgram => k_is)
    (case xc_BadProgram => k_is)
    (case xk_BadProgram => k_is)
    (case xa_OtherTables => k_is)
    (case xl_OtherTables => k_is)
    (case xs_OtherTables => k_is)
    (case xg_OtherTables => k_is)
    (case xt_OtherTables => k_is)
    (case xc_OtherTables => k_is)
    (case xk_OtherTables => k_is)
    (case xe_OtherTables => k_exc)
    (case xa_NoName => k_is)
    (case xl_NoName => k_is)
    (case xs_NoName => k_is)
    (case xg_NoName => k_is)
    (case xt_NoName => k_is)
    (case xc_NoName => k_is)
    (case xk_NoName => k_is)
    (case ca_Facts => k_is)
    (case pg_Facts => k_is)
    (case hd_Facts => k_is)
    (case po_Facts => k_is)
    (case sa_Facts => k_is)
    (case ma_Facts => k_is)
    (case kc_Facts => k_is)
    (case nf_Facts__schema => k_is)
    (case nf_Facts__facts => k_is)
    (case ca_Schema => k_is)
    (case pg_Schema => k_is)
    (case hd_Schema => k_is)
    (case po_Schema => k_is)
    (case sa_Schema => k_is)
    (case ma_Schema => k_is)
    (case kc_Schema => k_is)
    (case nf_Schema__columns => k_is)
    (case nf_Schema_tables => k_is)
    (case fa_wall => k_is)
    (case fl_wall => k_is)
    (case fc_wall => k_is)
    (case fk_wall => k_is)
    (case fa_BadFact_init => k_is)
    (case fl_BadFact_init => k_is)
    (case fc_BadFact_init => k_is)
    (case fk_BadFact_init => k_is)
    (case ft_BadFact_init => k_is)
    (case fn_BadFact_init_index => k_is)
    (case fa_BadProgram_init => k_is)
    (case fl_BadProgram_init => k_is)
    (case fc_BadProgram_init => k_is)
    (case fk_BadProgram_init => k_is)
    (case ft_BadProgram_init => k_is)
    (case fn_BadProgram_init_line => k_is)
    (case fa_NoName_init => k_is)
    (case fl_NoName_init => k_is)
    (case fc_NoName_init => k_is)
    (case fk_NoName_init => k_is)
    (case ft_NoName_init => k_is)
    (case fn_NoName_init_name => k_is)
    (case fa_reached => k_is)
    (case fl_reached => k_is)
    (case fc_reached => k_is)
    (case fk_reached => k_is)
    (case fa_lines_of => k_is)
    (case fl_lines_of => k_is)
    (case fc_lines_of => k_is)
    (case fk_lines_of => k_is)
    (case fa_words_of => k_is)
    (case fl_words_of => k_is)
    (case fc_words_of => k_is)
    (case fk_words_of => k_is)
    (case fa_is_name => k_is)
    (case fl_is_name => k_is)
    (case fc_is_name => k_is)
    (case fk_is_name => k_is)
    (case tk_is_name => k_is)
    (case tp_is_name => exact rfl)
    (case tn_is_name => first | kernel_rfl | exact rfl | decide +kernel)
    (case fa_read_facts => k_is)
    (case fl_read_facts => k_is)
    (case fc_read_facts => k_is)
    (case fk_read_facts => k_is)
    (case fa_read_fact => k_is)
    (case fl_read_fact => k_is)
    (case fc_read_fact => k_is)
    (case fk_read_fact => k_is)
    (case fa_read_table => k_is)
    (case fl_read_table => k_is)
    (case fc_read_table => k_is)
    (case fk_read_table => k_is)
    (case fa_read_column => k_is)
    (case fl_read_column => k_is)
    (case fc_read_column => k_is)
    (case fk_read_column => k_is)
    (case fa_leads_back => k_is)
    (case fl_leads_back => k_is)
    (case fc_leads_back => k_is)
    (case fk_leads_back => k_is)
    (case tk_leads_back => k_is)
    (case tp_leads_back => exact rfl)
    (case tn_leads_back => first | kernel_rfl | exact rfl | decide +kernel)
    (case fa_column_links => k_is)
    (case fl_column_links => k_is)
    (case fc_column_links => k_is)
    (case fk_column_links => k_is)
    (case fa_table_links => k_is)
    (case fl_table_links => k_is)
    (case fc_table_links => k_is)
    (case fk_table_links => k_is)
    (case fa_places_of => k_is)
    (case fl_places_of => k_is)
    (case fc_places_of => k_is)
    (case fk_places_of => k_is)
    (case fa_follows => k_is)
    (case fl_follows => k_is)
    (case fc_follows => k_is)
    (case fk_follows => k_is)
    (case fa_is_filled => k_is)
    (case fl_is_filled => k_is)
    (case fc_is_filled => k_is)
    (case fk_is_filled => k_is)
    (case tk_is_filled => k_is)
    (case tp_is_filled => exact rfl)
    (case tn_is_filled => first | kernel_rfl | exact rfl | decide +kernel)
    (case fa_is_found => k_is)
    (case fl_is_found => k_is)
    (case fc_is_found => k_is)
    (case fk_is_found => k_is)
    (case fa_turned_links => k_is)
    (case fl_turned_links => k_is)
    (case fc_turned_links => k_is)
    (case fk_turned_links => k_is)
    (case fa_lone_tables => k_is)
    (case fl_lone_tables => k_is)
    (case fc_lone_tables => k_is)
    (case fk_lone_tables => k_is)
    (case fa_is_constant => k_is)
    (case fl_is_constant => k_is)
    (case fc_is_constant => k_is)
    (case fk_is_constant => k_is)
    (case tk_is_constant => k_is)
    (case tp_is_constant => exact rfl)
    (case tn_is_constant => first | kernel_rfl | exact rfl | decide +kernel)
    (case fa_Facts_init => k_is)
    (case fl_Facts_init => k_is)
    (case fc_Facts_init => k_is)
    (case fk_Facts_init => k_is)
    (case fi_Facts_init => k_is)
    (case pa_Facts_lines => k_is)
    (case pq_Facts_lines => k_is)
    (case pt_Facts_lines => k_is)
    (case pv_Facts_lines => k_is)
    (case fl_Facts_lines => k_is)
    (case fc_Facts_lines => k_is)
    (case fk_Facts_lines => k_is)
    (case fa_Facts_iter => k_is)
    (case fl_Facts_iter => k_is)
    (case fc_Facts_iter => k_is)
    (case fk_Facts_iter => k_is)
    (case fi_Facts_iter => k_is)
    (case fa_Facts_contains => k_is)
    (case fl_Facts_contains => k_is)
    (case fc_Facts_contains => k_is)
    (case fk_Facts_contains => k_is)
    (case fi_Facts_contains => k_is)
    (case fa_Facts_or => k_is)
    (case fl_Facts_or => k_is)
    (case fc_Facts_or => k_is)
    (case fk_Facts_or => k_is)
    (case fi_Facts_or => k_is)
    (case fa_Facts_broken => k_is)
    (case fl_Facts_broken => k_is)
    (case fc_Facts_broken => k_is)
    (case fk_Facts_broken => k_is)
    (case fi_Facts_broken => k_is)
    (case fa_Facts_are_over => k_is)
    (case fl_Facts_are_over => k_is)
    (case fc_Facts_are_over => k_is)
    (case fk_Facts_are_over => k_is)
    (case fi_Facts_are_over => k_is)
    (case fa_Facts_as_read => k_is)
    (case fl_Facts_as_read => k_is)
    (case fc_Facts_as_read => k_is)
    (case fk_Facts_as_read => k_is)
    (case fi_Facts_as_read => k_is)
    (case fa_Facts_implies => k_is)
    (case fl_Facts_implies => k_is)
    (case fc_Facts_implies => k_is)
    (case fk_Facts_implies => k_is)
    (case fi_Facts_implies => k_is)
    (case fa_Schema_init => k_is)
    (case fl_Schema_init => k_is)
    (case fc_Schema_init => k_is)
    (case fk_Schema_init => k_is)
    (case fi_Schema_init => k_is)
    (case fa_Schema_columns => k_is)
    (case fl_Schema_columns => k_is)
    (case fc_Schema_columns => k_is)
    (case fk_Schema_columns => k_is)
    (case fi_Schema_columns => k_is)
    (case fa_Schema_fits => k_is)
    (case fl_Schema_fits => k_is)
    (case fc_Schema_fits => k_is)
    (case fk_Schema_fits => k_is)
    (case fi_Schema_fits => k_is)
    (case fa_Schema_check => k_is)
    (case fl_Schema_check => k_is)
    (case fc_Schema_check => k_is)
    (case fk_Schema_check => k_is)
    (case fi_Schema_check => k_is)
    (case fa_declared_tables => k_is)
    (case fl_declared_tables => k_is)
    (case fc_declared_tables => k_is)
    (case fk_declared_tables => k_is)
    (case fa_is_table_line => k_is)
    (case fl_is_table_line => k_is)
    (case fc_is_table_line => k_is)
    (case fk_is_table_line => k_is)
    (case tk_is_table_line => k_is)
    (case tp_is_table_line => exact rfl)
    (case tn_is_table_line => first | kernel_rfl | exact rfl | decide +kernel)
    (case fa_begun_pen => k_is)
    (case fl_begun_pen => k_is)
    (case fc_begun_pen => k_is)
    (case fk_begun_pen => k_is)
    (case fa_draw => k_is)
    (case fl_draw => k_is)
    (case fc_draw => k_is)
    (case fk_draw => k_is)
    (case fa_pick => k_is)
    (case fl_pick => k_is)
    (case fc_pick => k_is)
    (case fk_pick => k_is)
    (case fa_shuffled => k_is)
    (case fl_shuffled => k_is)
    (case fc_shuffled => k_is)
    (case fk_shuffled => k_is)
    (case fa_new_names => k_is)
    (case fl_new_names => k_is)
    (case fc_new_names => k_is)
    (case fk_new_names => k_is)
    (case fa_columns => k_is)
    (case fl_columns => k_is)
    (case fc_columns => k_is)
    (case fk_columns => k_is)
    (case fa_keeps => k_is)
    (case fl_keeps => k_is)
    (case fc_keeps => k_is)
    (case fk_keeps => k_is)
    (case fa_keeps_all => k_is)
    (case fl_keeps_all => k_is)
    (case fc_keeps_all => k_is)
    (case fk_keeps_all => k_is)
    (case fa_schema_text => k_is)
    (case fl_schema_text => k_is)
    (case fc_schema_text => k_is)
    (case fk_schema_text => k_is)
    (case fa_spot => k_is)
    (case fl_spot => k_is)
    (case fc_spot => k_is)
    (case fk_spot => k_is)
    (case fa_each_once => k_is)
    (case fl_each_once => k_is)
    (case fc_each_once => k_is)
    (case fk_each_once => k_is)
    (case fa_fact_tables => k_is)
    (case fl_fact_tables => k_is)
    (case fc_fact_tables => k_is)
    (case fk_fact_tables => k_is)
    (case fa_led_from => k_is)
    (case fl_led_from => k_is)
    (case fc_led_from => k_is)
    (case fk_led_from => k_is)
    (case fa_filled => k_is)
    (case fl_filled => k_is)
    (case fc_filled => k_is)
    (case fk_filled => k_is)
    (case fa_found_pairs => k_is)
    (case fl_found_pairs => k_is)
    (case fc_found_pairs => k_is)
    (case fk_found_pairs => k_is)
    (case fa_fixed => k_is)
    (case fl_fixed => k_is)
    (case fc_fixed => k_is)
    (case fk_fixed => k_is)
    (case fa_same_value => k_is)
    (case fl_same_value => k_is)
    (case fc_same_value => k_is)
    (case fk_same_value => k_is)
    (case fa_found_implied => k_is)
    (case fl_found_implied => k_is)
    (case fc_found_implied => k_is)
    (case fk_found_implied => k_is)
    (case fa_implied => k_is)
    (case fl_implied => k_is)
    (case fc_implied => k_is)
    (case fk_implied => k_is)
    (case fa_linked_facts => k_is)
    (case fl_linked_facts => k_is)
    (case fc_linked_facts => k_is)
    (case fk_linked_facts => k_is)
    (case fa_some_of => k_is)
    (case fl_some_of => k_is)
    (case fc_some_of => k_is)
    (case fk_some_of => k_is)
    (case fa_all_lines => k_is)
    (case fl_all_lines => k_is)
    (case fc_all_lines => k_is)
    (case fk_all_lines => k_is)
    (case fa_small_rows => k_is)
    (case fl_small_rows => k_is)
    (case fc_small_rows => k_is)
    (case fk_small_rows => k_is)
    (case fa_linked_tables => k_is)
    (case fl_linked_tables => k_is)
    (case fc_linked_tables => k_is)
    (case fk_linked_tables => k_is)
    (case fa_hand_right => k_is)
    (case fl_hand_right => k_is)
    (case fc_hand_right => k_is)
    (case fk_hand_right => k_is)
    (case fa_law => k_is)
    (case fl_law => k_is)
    (case fc_law => k_is)
    (case fk_law => k_is)
    (case tr_is_name => exact ⟨_, rfl⟩)
    (case tr_leads_back => exact ⟨_, rfl⟩)
    (case tr_is_filled => exact ⟨_, rfl⟩)
    (case tr_is_constant => exact ⟨_, rfl⟩)
    (case tr_is_table_line => exact ⟨_, rfl⟩)

