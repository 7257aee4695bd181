import PyProof.Rows.All
import Wide.All
import OpenK.AllK
import Wide.FinOn
import PyProof.EqAt
import PyProof.EqKinds
import PyProof.TupleCall
import KE.KExcIs
import HandS.ForMost
import HandS.Exc
import HandS.ExcOwn
import HandS.ExcInit
import HandS.ExcValue
import HandS.ExcField
import HandS.ExcIs
import HandS.IsInst
import HandS.Wide
import HandS.DictComp
import HandS.GenCall
import HandS.GenList
import HandS.EndTab
import PyProof.EnumMake
import PyProof.Draws
import HandS.Iter
import HandS.Strs
import HandS.SetKeys
import HandS.OwnIter
import HandS.IterVal
import KE.KDictList
import PyProof.TupleOfSeq
import KE.GoesEnum
import HandS.Walk
import HandS.Text
import HandS.ForExc
import HandS.WordsExc
import PyProof.P3Eq
import HandS.TupSets
import PyProof.Rows.SetFrom
import HandS.TupMul
import HandS.Property
import HandS.Deep
import HandS.TryOnly
import HandS.Style
import PySem.Challenge.RW_lookuploops_k12_facts_kept
set_option Elab.async false
set_option linter.all false
set_option maxRecDepth 100000
set_option maxHeartbeats 2000000
/-! Errors as values: made by a call, asked by isinstance, their fields read. -/
namespace L2.Ev
open PySem PySem.Spec PyProof.Rows

/-- an error of the class at C stands at a -/
def IsEx (H : Hp) (a C : Addr) : Prop :=
  (∃ dx fs, H a = some (exo a C (some dx)) ∧ H dx = some (exd dx fs)) ∨ H a = some (ExO (.ref C) a)

theorem IsEx.inst {X : Cx} {pins : List (Addr × Obj)} {σ : St} {H : Hp} {s : Shared} {a C : Addr} (I : Inv X pins σ H s) (e : IsEx H a C) :
    ∃ ox od, PySem.W.InstAt s.heap a ox C od := by
  rcases e with ⟨dx, fs, ea, ed⟩ | ea
  · obtain ⟨t1, ho⟩ := exo_at I.hok ea
    obtain ⟨mA, hns, _⟩ := exd_at I.hok ed
    obtain ⟨od, hd, _⟩ := lookIn_ns hns
    exact ⟨_, some od, ho, rfl, rfl, hd⟩
  · have x : ObjOk X.prog X.w H s.heap a (ExO (.ref C) a) := I.hok a _ ea
    obtain ⟨⟨oe, vs, h1, hz, hd, _⟩, _⟩ := x
    refine ⟨oe, none, h1, hz.1, ?_, ?_⟩
    · unfold PySem.W.notCls
      rw [hd]
    · rw [hz.2]
      trivial

/-- isinstance(e, c), e an error held as a value -/
def rIsV (K : PySem.W.Frag) : List V → Hp → VK → Prop := fun xs H Q =>
  ∃ (a C : Addr) (c : V) (u : Value) (b : Bool), xs = [.ref a, c] ∧ ClsV c u ∧ IsEx H a C ∧ ExcC K C ∧ PySem.W.kitOne K (.ref C) u = some b ∧ Q (.bl b) H
theorem call_isV {X : Cx} : CallR X (.builtin "isinstance") (rIsV X.K) := by
  intro pins s σ H xs us Q I r h
  obtain ⟨a, C, c, u, b, rfl, hc, hx, T, e, q⟩ := h
  obtain ⟨u1, u2, rfl, r1, r2⟩ := vals2 r
  cases (show u1 = Value.ref a from r1)
  have e2 := hc.eq r2
  subst e2
  obtain ⟨ox, od, J⟩ := hx.inst I
  have hcl : (PySem.W.clsIn X.K C).isSome = true := by
    obtain ⟨cd, hcd, _⟩ := PySem.W.any_some T.hd
    rw [hcd]
    rfl
  exact PySem.W.kia_one (PySem.W.kitx_exc (od := od) (ox := ox) hcl T.hg T.hk T.hs T.ha T.hn T.ht T.hm) I.kIn J e (fun z => nomatch z) fun tk => ⟨.bl b, H, I.tok tk, rfl, q⟩

/-- e.f, e an error with a dict -/
def tXv (K : PySem.W.Frag) (n : Str) (te : TE) : TE := fun σ H Q => te σ H fun x H1 =>
  ∃ (a C dx : Addr) (fs : List (Str × V)) (v : V), x = .ref a ∧ H1 a = some (exo a C (some dx)) ∧ H1 dx = some (exd dx fs) ∧ XfC K C ∧ PySem.W.findIn K (.ref C) n = some none ∧ fs.lookup n = some v ∧ Q v H1
theorem pe_xv {X : Cx} {e : Expr} {te : TE} {pos : Pos} {n : Str} (he : PE X e te) (hb : attributeBase e n X.env (eval e X.env) = eval e X.env := by rfl) : PE X (.Attribute e n pos) (tXv X.K n te) := by
  refine ⟨fun pins s σ H Q I h => ?_⟩
  refine attr_of hb (thn (he.run pins s σ H _ I h) fun u s1 ⟨x, H1, I1, rx, a, C, dx, fs, v, ex, ea, ed, T, hno, l, q⟩ => ?_)
  subst ex
  cases (show u = Value.ref a from rx)
  obtain ⟨t1, ho⟩ := exo_at I1.hok ea
  obtain ⟨mA, hns, hr⟩ := exd_at I1.hok ed
  obtain ⟨od, hod, hl⟩ := lookIn_ns hns
  obtain ⟨u, hu, ru⟩ := RelO.some_of (v := v) (o := mA n) (by rw [← l]; exact hr n)
  have J : PySem.W.InstAt s1.heap a _ C (some od) := ⟨ho, rfl, rfl, hod⟩
  exact HandSPX.exc_get I1.kIn J T.ga T.gg T.exC (PySem.W.findObj_own T.hdC hno rfl (by rw [hl, hu])) (handed_of ru) ⟨v, H1, I1.tok _, ru, q⟩

/-- C(e, ..) as a value, C's own __init__ keeping sp -/
def tMkV (C : Addr) (sp : Sp) (ta : TA) : TE := fun σ H Q => ta σ H fun vs H1 => vs.length ≤ 1000 ∧ ∀ a, H1 a = none →
  sp (.ref a :: vs) (upd H1 a (exo a C none)) (fun v H2 => v = .non ∧ Q (.ref a) H2) (fun _ _ _ => False)
theorem pe_mkV {X : Cx} {x : Str} {C fI : Addr} {k : Nat} {fd : FuncData} {ps : List Str} {sp : Sp} {e : Expr} {es : List Expr} {ta : TA} {p pos : Pos} (T : OexC X.K C)
    (iC : PySem.W.findIn X.K (.ref C) "__init__" = some (some (.ref fI))) (tI : PySem.W.typeIn X.K (.ref fI) = some (.type "function"))
    (F1 : FnOk X.prog X.w X.K X.mg X.base CX0 k fI fd ps sp) (hr : Room (k + 1) X.A) (hb : Binds X.K fd ps []) (hg : Gl X x) (hm : X.mg x = some (.ref C)) (ha : PA X (e :: es) ta)
    (hdb : (x == ("__debug__" : Str)) = false := by decide) (he : starEach (e :: es) X.env = (false, eval e X.env) :: starEach es X.env := by rfl) (hpl : (backTo pos (starEach es X.env)).any (·.1) = false := by rfl) :
    PE X (.Call (.Name x p) (e :: es) [] pos) (tMkV C sp ta) := by
  refine ⟨fun pins s σ H Q I h => ?_⟩
  obtain ⟨nm, q, N, bs, bm, sn, sub, ab, col, dd, k0, k1, k2, k3, k5, hC, hbm⟩ := T.cls
  refine wpAny_Call_Name_kw (ld_glob I hg hm ?_ hdb)
  refine PySem.W.callWith_K (h₀ := X.base) I.ok.mod.kin T.kC (thn (ha.run pos pins s σ H _ I h) fun us s1 ⟨vs, H1, I1, r1, hz, q1⟩ => ⟨I1.kIn, ?_⟩) he hpl
  show wpAny _ _ (call (.ref C) us) _ _ _
  obtain ⟨hp, g, dr, tk, os⟩ := s1
  have hsz : hp.objs.size ≤ hp.objs.size + 1 := Nat.le_succ _
  have hn : H1 (hp.objs.size + 1) = none := I1.hok.fresh hsz
  have hq := q1 (hp.objs.size + 1) hn
  have kk : ∀ b o, hp.get? b = some o → ((hp.push (PySem.W.kdv_tup us)).push (PySem.HandSPX.excO C hp.objs.size)).get? b = some o :=
    fun b o z => Heap.get?_push_of_some _ (Heap.get?_push_of_some _ z)
  have hget : ((hp.push (PySem.W.kdv_tup us)).push (PySem.HandSPX.excO C hp.objs.size)).get? (hp.objs.size + 1) = some (PySem.HandSPX.excO C hp.objs.size) := by heap_get
  generalize hpp : (hp.push (PySem.W.kdv_tup us)).push (PySem.HandSPX.excO C hp.objs.size) = hp1 at kk hget
  have I2 : Inv X pins σ (upd H1 (hp.objs.size + 1) (exo (hp.objs.size + 1) C none)) ⟨hp1, g, dr, tk, os⟩ := I1.laid (t' := tk) kk hsz (exo_ok hget)
  have r2 : Vals (V.ref (hp.objs.size + 1) :: vs) (Value.ref (hp.objs.size + 1) :: us) := .cons rfl r1
  have hl : (Value.ref (hp.objs.size + 1) :: us ++ []).length = ps.length := by
    rw [List.append_nil, ← r2.length]
    exact F1.len _ _ _ _ hq
  have hus : us.length ≤ sizeLine := by
    rw [← Paired.length r1, sizeLine_eq]
    omega
  have hb' := hb ⟨hp1, g, dr, tk, os⟩ (Value.ref (hp.objs.size + 1) :: us) I2.kIn (by rw [List.append_nil] at hl; rw [← hl]; first | rfl | simp)
  rw [List.append_nil] at hb'
  refine wpAny_call (PySem.HandSPX.call_own F.excBase_ValueError (fun Y => PySem.HandSPX.refsVE_contains Y bm hbm) (I1.kIn _ _ hC) (PySem.W.looks_findIn I1.kIn iC) (fun self => PySem.W.bind_fn I1.kIn self tI) hus ?_)
  rw [hpp]
  refine codeAny_mono (F1.run _ X.stack _ _ ⟨Value.ref (hp.objs.size + 1) :: us, []⟩ (Value.ref (hp.objs.size + 1) :: us) _ _ (fun _ _ _ => False) (hr.make C us []) (I2.env0.make C us []) hb' r2 hq) fun r s' hq' => ?_
  cases r with
  | error er => exact absurd hq' (fun z => z)
  | ok fl =>
    cases fl with
    | ret u =>
      obtain ⟨v, H2, os2, bare2, un2, hok2, rv, q2⟩ := hq'
      have I4 : Inv X pins σ H2 s' := I2.call' (ch := []) os2 un2 hok2 bare2 (fun b z => absurd z (by simp))
      obtain ⟨h2, g2, d2, t2, os'⟩ := s'
      obtain ⟨rfl, q3⟩ := q2
      exact ⟨rv, .ref (hp.objs.size + 1), H2, I4, rfl, q3⟩
    | next => exact False.elim hq'
    | brk => exact False.elim hq'
    | cont => exact False.elim hq'

/-- C() as a value, C an own error class without own __init__, no arguments -/
theorem pe_mkV0 {X : Cx} {C : Addr} {bmB : List Value} {B newId initId : String} {x : Str} {p pos : Pos} (F : ExcBaseFacts B newId initId bmB) (q : PySem.W.excIn X.K C bmB newId = true) (gC : X.mg x = some (.ref C)) (kC : PySem.W.keepIn X.K (.ref C) = true) (hg : Gl X x)
    (hdb : (x == ("__debug__" : Str)) = false := by decide) :
    PE X (.Call (.Name x p) [] [] pos) (fun σ H Q => ∀ a, H a = none → Q (.ref a) (upd H a (ExO (.ref C) a))) := by
  refine ⟨fun pins s σ H Q I h => ?_⟩
  refine wpAny_Call_Name_kw (ld_glob I hg gC ?_ hdb)
  refine PySem.W.callWith_K0 I.kIn kC ?_
  obtain ⟨hp, g, d, t, os⟩ := s
  obtain ⟨bm, N, nm, qn, bs, hdct, sn, sub, ab, col, dd, k0, k1, k2, k3, k5, mN, hC, hN, hni, T⟩ := exc_obj I.kIn q
  refine wpAny_call_exc_subT F T hC hN hni (fun h' a hm => ?_) (by show 0 ≤ sizeLine; omega)
  have hn : H a = none := I.hok.gone hm.new
  obtain ⟨t, ht, _, _⟩ := hm.there
  exact ⟨.ref a, upd H a (ExO (.ref C) a), I.laidN hm.keeps hm.new hn (exO_ok ht ⟨rfl, rfl⟩ rfl rfl rfl (show 4 < 6 by decide)), rfl, h a hn⟩
/-- self.f = e of an error: the first field, a further one -/
theorem exd_two {H : Hp} {a dx C : Addr} {y z : V} {f g : Str} (n : H dx = none) (ne : dx ≠ a) :
    IsEx (upd (upd (upd H dx (exd dx [(f, y)])) a (exo a C (some dx))) dx (exd dx [(g, z), (f, y)])) a C :=
  .inl ⟨dx, _, by rw [upd_ne (Ne.symm ne), upd_same], upd_same⟩

/-! ### what the top has left of an error class -/
/-- an error class of the program, named nm; up: what its order of look-up holds behind it -/
structure XC (K : PySem.W.Frag) (mg : Str → Option Value) (nm : Str) (up : List Value) where
  C : Addr
  g : mg nm = some (.ref C)
  look : ∃ q N bs sn sub ab col dd k0 k1 k2 k3 k5, K.lookup C = some (excClassObj nm q C N bs up true sn sub ab col dd k0 k1 k2 k3 k5 "ValueError.__new__")
  ve : HandSPX.refsVE up = true
  sa : PySem.W.findIn K (.ref C) "__setattr__" = some (some (.builtin "object.__setattr__"))
  ga : PySem.W.findIn K (.ref C) "__getattribute__" = some (some (.builtin "BaseException.__getattribute__"))
  gg : PySem.W.findIn K (.ref C) "__getattr__" = some none
  cc : PySem.W.findIn K (.ref C) "__class__" = some (some (.builtin "object.__class__"))
  kp : PySem.W.keepIn K (.ref C) = true
  gn : PySem.W.specialIn K (.builtin "object.__class__") "__get__" = some (some (.builtin "getset_descriptor.__get__"))
  gt : PySem.W.takesIn K (.builtin "object.__class__") = some true
section
variable {K : PySem.W.Frag} {mg : Str → Option Value} {nm nm' : Str} {up up' : List Value}
theorem XC.cd (x : XC K mg nm up) : ∃ cd, PySem.W.clsIn K x.C = some cd ∧ cd.name = nm ∧ cd.mro = .ref x.C :: up ∧ cd.hasDict = true := by
  obtain ⟨q, N, bs, sn, sub, ab, col, dd, k0, k1, k2, k3, k5, h⟩ := x.look
  refine ⟨_, by unfold PySem.W.clsIn; rw [h], rfl, rfl, rfl⟩
theorem XC.sub (x : XC K mg nm up) (v : Value) : PySem.W.subIn K (.ref x.C) v = some ((Value.ref x.C :: up).contains v) := by
  obtain ⟨cd, h, _, hm, _⟩ := x.cd
  show PySem.W.mroIn K x.C v = _
  unfold PySem.W.mroIn
  rw [h, Option.bind_some, hm]
  rfl
theorem XC.type (x : XC K mg nm up) (T : String) : (Value.ref x.C :: up).contains (.type T) = HandSPX.veTail.contains (.type T) := by
  have e : HandSPX.refsVE (Value.ref x.C :: up) = true := x.ve
  exact HandSPX.refsVE_contains T _ e
theorem XC.ty (x : XC K mg nm up) : PySem.W.typeIn K (.ref x.C) = some (.type "type") := by
  obtain ⟨q, N, bs, sn, sub, ab, col, dd, k0, k1, k2, k3, k5, h⟩ := x.look
  show (K.lookup x.C).map (·.cls) = _
  rw [h]
  rfl
theorem XC.exB (x : XC K mg nm up) : PySem.W.subIn K (.ref x.C) (.type "BaseException") = some true := by
  rw [x.sub, x.type]
  decide +kernel
theorem XC.hd (x : XC K mg nm up) : PySem.W.hasDictIn K x.C = true := by
  obtain ⟨cd, h, _, _, hd⟩ := x.cd
  unfold PySem.W.hasDictIn
  rw [h]
  exact hd
theorem XC.ob (x : XC K mg nm up) : PySem.W.mroIn K x.C (.type "object") = some true := by
  have e := x.sub (.type "object")
  rw [x.type] at e
  exact e.trans (by decide +kernel)
theorem XC.oex (x : XC K mg nm up) : OexC K x.C := by
  obtain ⟨q, N, bs, sn, sub, ab, col, dd, k0, k1, k2, k3, k5, h⟩ := x.look
  exact ⟨⟨nm, q, N, bs, up, sn, sub, ab, col, dd, k0, k1, k2, k3, k5, h, x.ve⟩, x.sa, x.exB, x.ty, x.kp⟩
theorem XC.exc (x : XC K mg nm up) : ExcC K x.C := ⟨x.ga, x.gg, x.exB, x.hd, x.cc, x.gn, x.gt, x.ob⟩
theorem XC.xfc (x : XC K mg nm up) : XfC K x.C := ⟨x.ga, x.gg, x.exB, x.hd⟩
/-- classes of unlike names are unlike -/
theorem XC.ne (x : XC K mg nm up) (y : XC K mg nm' up') (h : nm ≠ nm') : x.C ≠ y.C := fun e => by
  obtain ⟨c, h1, h2, _⟩ := x.cd
  obtain ⟨d, h3, h4, _⟩ := y.cd
  rw [e, h3] at h1
  cases h1
  exact h (h2.symm.trans h4)
theorem XC.kit (x : XC K mg nm up) (y : XC K mg nm' up') : PySem.W.kitOne K (.ref x.C) (.ref y.C) = some ((Value.ref x.C :: up).contains (.ref y.C)) := by
  unfold PySem.W.kitOne
  by_cases e : x.C = y.C
  · rw [if_pos (by rw [e]; simp), List.contains_cons, e]
    simp
  · have n : ¬ (Value.ref x.C == Value.ref y.C) = true := fun z => e (Value.ref.inj (beq_iff_eq.mp z))
    rw [if_neg n]
    show (if ((PySem.W.clsIn K y.C).isSome && PySem.W.typeIn K (.ref y.C) == some (.type "type")) = true then PySem.W.subIn K (.ref x.C) (.ref y.C) else none) = _
    obtain ⟨cd, hc, _⟩ := y.cd
    rw [hc, y.ty, if_pos (by rfl), x.sub]
theorem XC.kitV (x : XC K mg nm up) : PySem.W.kitOne K (.ref x.C) (.type "ValueError") = some true := by
  unfold PySem.W.kitOne
  rw [if_neg (by simp)]
  show (if PySem.W.kitMeta "ValueError" = true then PySem.W.subIn K (.ref x.C) (.type "ValueError") else none) = _
  rw [if_pos (by decide +kernel), x.sub, x.type]
  decide +kernel
end
end L2.Ev
namespace L2.Ev
open PySem PySem.Spec PyProof.Rows
section
variable {X : Cx}
/-- a list beside the empty list: no item is asked -/
def rNil (K : PySem.W.Frag) (f : Bool → Bool) : R2 := fun x y H Q => ∃ a b xs, x = .ref a ∧ y = .ref b ∧ SqL K H a xs ∧ SqL K H b [] ∧ Q (.bl (f xs.isEmpty)) H
theorem op_neNil (hu : X.A.units < cLine) : OpR X (compareOp .NotEq) (rNil X.K fun e => !e) := by
  intro pins s σ H x y v u Q I rx ry h
  obtain ⟨a, b, xs, rfl, rfl, ha, hb, q⟩ := h
  cases (show v = Value.ref a from rx)
  cases (show u = Value.ref b from ry)
  obtain ⟨i1, r1, p1, _⟩ := I.list ha
  obtain ⟨i2, r2, p2, _⟩ := I.list hb
  cases r2
  cases xs with
  | nil =>
    cases r1
    exact SeqAt.RcNeAt.lists (e := fun _ => true) p1.isList p2.isList rfl hu (fun j h1 _ => absurd h1 (by simp)) X.prog X.w _ _ ⟨.bl false, H, I, rfl, q⟩
  | cons z zs =>
    cases r1
    exact SeqAt.RcNeAt.lists_lengths p1.isList p2.isList (by simp) hu X.prog X.w _ _ ⟨.bl true, H, I, rfl, q⟩
theorem op_eqNil (hu : X.A.units < cLine) : OpR X (compareOp .Eq) (rNil X.K fun e => e) := by
  intro pins s σ H x y v u Q I rx ry h
  obtain ⟨a, b, xs, rfl, rfl, ha, hb, q⟩ := h
  cases (show v = Value.ref a from rx)
  cases (show u = Value.ref b from ry)
  obtain ⟨i1, r1, p1, _⟩ := I.list ha
  obtain ⟨i2, r2, p2, _⟩ := I.list hb
  cases r2
  cases xs with
  | nil =>
    cases r1
    exact SeqAt.RcAt.lists (e := fun _ => true) p1.isList p2.isList rfl hu (fun j h1 _ => absurd h1 (by simp)) X.prog X.w _ _ ⟨.bl true, H, I, rfl, q⟩
  | cons z zs =>
    cases r1
    exact SeqAt.RcAt.lists_lengths p1.isList p2.isList (by simp) hu X.prog X.w _ _ ⟨.bl false, H, I, rfl, q⟩
end
/-- all but p is as it was -/
def But (p : Addr) (H H' : Hp) : Prop := ∀ b o, b ≠ p → H b = some o → H' b = some o
theorem But.refl (p : Addr) (H : Hp) : But p H H := fun _ _ _ h => h
theorem But.trans {p : Addr} {H H1 H2 : Hp} (a : But p H H1) (b : But p H1 H2) : But p H H2 := fun c o n h => b c o n (a c o n h)
theorem But.of {p : Addr} {H H' : Hp} (a : Same H H') : But p H H' := fun b o _ h => a b o h
theorem But.new {p q : Addr} {H H1 : Hp} {o : HO} (a : But p H H1) (h : H1 q = none) : But p H (upd H1 q o) := fun b u n e => by
  have z := a b u n e
  rw [upd_ne (ne_of_none z h)]
  exact z
theorem But.own {p q : Addr} {H H1 : Hp} {o : HO} (a : But p H H1) (h : H q = none) : But p H (upd H1 q o) := fun b u n e => by
  rw [upd_ne (ne_of_none e h)]
  exact a b u n e
theorem But.self {p : Addr} {H H1 : Hp} {o : HO} (a : But p H H1) : But p H (upd H1 p o) := fun b u n e => by
  rw [upd_ne n]
  exact a b u n e
theorem Same.new {q : Addr} {H H1 : Hp} {o : HO} (a : Same H H1) (h : H1 q = none) : Same H (upd H1 q o) := fun b u e => by
  have z := a b u e
  rw [upd_ne (ne_of_none z h)]
  exact z
theorem Same.own {q : Addr} {H H1 : Hp} {o : HO} (a : Same H H1) (h : H q = none) : Same H (upd H1 q o) := fun b u e => by
  rw [upd_ne (ne_of_none e h)]
  exact a b u e
/-- what is free in a grown heap was free -/
theorem But.free {p q : Addr} {H H1 : Hp} {o : HO} (a : But p H H1) (hp : H1 p = some o) (h : H1 q = none) : H q = none := by
  cases e : H q with
  | none => rfl
  | some u =>
    by_cases z : q = p
    · rw [z, hp] at h
      cases h
    · rw [a q u z e] at h
      cases h
/-! ### the law's pen: a dict of the cells, the turn, what is left of a large cell -/
def penD (c : Addr) (t l : Int) : List (Key × V) := [(Sum.inr ("cells" : Str), .ref c), (Sum.inr ("turn" : Str), .int t), (Sum.inr ("left" : Str), .int l)]
structure Pen (H : Hp) (p c : Addr) (ns : List Int) (n : Nat) : Prop where
  d : ∃ t l : Int, H p = some (.dK (penD c t l)) ∧ 0 ≤ t ∧ t ≤ (n : Int)
  cells : H c = some (.lst (ns.map V.int))
  len : ns.length ≤ 63
section
variable {H H' : Hp} {p c q : Addr} {ns : List Int} {n : Nat} {t l z : Int} {o : HO}
theorem sne1 : ¬ ("cells" : Str) = ("turn" : Str) := by decide +kernel
theorem sne2 : ¬ ("cells" : Str) = ("left" : Str) := by decide +kernel
theorem sne3 : ¬ ("turn" : Str) = ("left" : Str) := by decide +kernel
theorem sne4 : ¬ ("left" : Str) = ("turn" : Str) := by decide +kernel
theorem kne1 : ¬ (Sum.inr ("cells" : Str) : Key) = Sum.inr ("turn" : Str) := by decide +kernel
theorem kne2 : ¬ (Sum.inr ("cells" : Str) : Key) = Sum.inr ("left" : Str) := by decide +kernel
theorem kne3 : ¬ (Sum.inr ("turn" : Str) : Key) = Sum.inr ("left" : Str) := by decide +kernel
theorem kne4 : ¬ (Sum.inr ("left" : Str) : Key) = Sum.inr ("turn" : Str) := by decide +kernel
theorem pen_cells (h : H p = some (.dK (penD c t l))) : DGet H p (.str ("cells" : Str)) (some (.ref c)) := by
  have e := DGet.k (k := Sum.inr ("cells" : Str)) h
  rw [show valV (penD c t l) (Sum.inr ("cells" : Str)) = some (.ref c) from valV_pos rfl] at e
  exact e
theorem pen_turn (h : H p = some (.dK (penD c t l))) : DGet H p (.str ("turn" : Str)) (some (.int t)) := by
  have e := DGet.k (k := Sum.inr ("turn" : Str)) h
  rw [show valV (penD c t l) (Sum.inr ("turn" : Str)) = some (.int t) from (valV_neg kne1).trans (valV_pos rfl)] at e
  exact e
theorem pen_left (h : H p = some (.dK (penD c t l))) : DGet H p (.str ("left" : Str)) (some (.int l)) := by
  have e := DGet.k (k := Sum.inr ("left" : Str)) h
  rw [show valV (penD c t l) (Sum.inr ("left" : Str)) = some (.int l) from (valV_neg kne2).trans ((valV_neg kne3).trans (valV_pos rfl))] at e
  exact e
theorem pen_put_turn (h : H p = some (.dK (penD c t l))) : DPut H p (.str ("turn" : Str)) (.int z) (upd H p (.dK (penD c z l))) := by
  have e := DPut.k (k := Sum.inr ("turn" : Str)) (v := .int z) h (show 3 < sizeLine by decide)
  rw [show putK (penD c t l) (Sum.inr ("turn" : Str)) (V.int z) = penD c z l from by
    unfold putK penD
    simp [sne1, sne4]] at e
  exact e
theorem pen_put_left (h : H p = some (.dK (penD c t l))) : DPut H p (.str ("left" : Str)) (.int z) (upd H p (.dK (penD c t z))) := by
  have e := DPut.k (k := Sum.inr ("left" : Str)) (v := .int z) h (show 3 < sizeLine by decide)
  rw [show putK (penD c t l) (Sum.inr ("left" : Str)) (V.int z) = penD c t z from by
    unfold putK penD
    simp [sne2, sne3]] at e
  exact e
theorem Pen.ne (h : Pen H p c ns n) : c ≠ p := fun e => by
  obtain ⟨⟨t, l, h1, _⟩, h2, _⟩ := h
  rw [e, h1] at h2
  cases h2
theorem Pen.upd (h : Pen H p c ns n) (h1 : q ≠ p) (h2 : q ≠ c) : Pen (upd H q o) p c ns n := by
  obtain ⟨⟨t, l, h3, h4⟩, h5, h6⟩ := h
  exact ⟨⟨t, l, by rw [upd_ne (Ne.symm h1)]; exact h3, h4⟩, by rw [upd_ne (Ne.symm h2)]; exact h5, h6⟩
theorem Pen.new (h : Pen H p c ns n) (hq : H q = none) : Pen (L2.upd H q o) p c ns n := by
  obtain ⟨t, l, h3, h4⟩ := h.d
  exact h.upd (Ne.symm (ne_of_none h3 hq)) (Ne.symm (ne_of_none h.cells hq))
theorem Pen.same (h : Pen H p c ns n) (k : Same H H') : Pen H' p c ns n := by
  obtain ⟨⟨t, l, h3, h4⟩, h5, h6⟩ := h
  exact ⟨⟨t, l, k _ _ h3, h4⟩, k _ _ h5, h6⟩
theorem Pen.mono {m : Nat} (h : Pen H p c ns n) (k : n ≤ m) : Pen H p c ns m := by
  obtain ⟨⟨t, l, h3, h4, h5⟩, h6, h7⟩ := h
  exact ⟨⟨t, l, h3, h4, by omega⟩, h6, h7⟩
theorem Pen.there (h : Pen H p c ns n) : ∃ o, H p = some o := let ⟨t, l, e, _⟩ := h.d; ⟨_, e⟩
theorem Pen.dput (h : Pen H p c ns n) (h0 : 0 ≤ t) (h1 : t ≤ (n : Int)) : Pen (L2.upd H p (.dK (penD c t l))) p c ns n :=
  ⟨⟨t, l, upd_same, h0, h1⟩, by rw [upd_ne h.ne]; exact h.cells, h.len⟩
end
end L2.Ev
namespace L2.Ev
open PySem PySem.Spec PyProof.Rows
/-- a statement whose ways meet behind it -/
def tJoin (t u : TS) : TS := fun D σ H => ∃ R : St → Hp → Prop, t ⟨R, D.rt, D.bk, D.ct⟩ σ H ∧ ∀ σ' H', R σ' H' → u D σ' H'
theorem pss_join {X : Cx} {st : Stmt} {rest : List Stmt} {t u : TS} (h1 : PS X st t) (h2 : PSs X rest u) : PSs X (st :: rest) (tJoin t u) := by
  refine ⟨fun pins s σ H D I ⟨R, ha, hb⟩ => ?_⟩
  refine wpAny_execs_cons (thn (h1.run pins s σ H ⟨R, D.rt, D.bk, D.ct⟩ I ha) fun f s2 z => ?_)
  rcases f with _ | _ | _ | y
  · obtain ⟨σ2, H2, J, z⟩ := z
    exact h2.run pins s2 σ2 H2 D J (hb σ2 H2 z)
  all_goals exact z
end L2.Ev
namespace L2.Ev
open PySem PySem.Spec PyProof.Rows
/-! ### rules with the written part named: within a comprehension's block -/
section
variable {X : Cx} {K : PySem.W.Frag}
def rListOf (K : PySem.W.Frag) : List V → Hp → VK → Prop := fun xs H Q => ∃ p ys, xs = [.ref p] ∧ (SqL K H p ys ∨ SqT K H p ys) ∧ ∀ l, H l = none → Q (.ref l) (L2.upd H l (.lst ys))
theorem list_ofK (hK : X.K = K := by rfl) : CallR X (.type "list") (rListOf K) := by
  subst hK
  exact call_list_of
def rLenOf (K : PySem.W.Frag) : List V → Hp → VK → Prop := fun xs H Q => ∃ p ys, xs = [.ref p] ∧ (SqL K H p ys ∨ SqT K H p ys) ∧ Q (.int ys.length) H
theorem len_ofK (hK : X.K = K := by rfl) : CallR X (.builtin "len") (rLenOf K) := by
  subst hK
  exact call_len_seq
theorem ix_listK (hK : X.K = K := by rfl) : IxR X (rIxL K) := by
  subst hK
  exact ix_list
theorem ix_tupK (hK : X.K = K := by rfl) : IxR X (rIxT K) := by
  subst hK
  exact ix_tup
theorem sl_listK (hK : X.K = K := by rfl) : SlR X (rSlL K) := by
  subst hK
  exact sl_list
theorem op_eqDK (hu : X.A.units + 64 < cLine) (hK : X.K = K := by rfl) : OpR X (compareOp .Eq) (rEqD K) := by
  subst hK
  exact op_eqD hu
theorem op_neDK (hu : X.A.units + 64 < cLine) (hK : X.K = K := by rfl) : OpR X (compareOp .NotEq) (rNeD K) := by
  subst hK
  exact op_neD hu
theorem op_inK (hK : X.K = K := by rfl) : OpR X (compareOp .In) (rIn K false) := by
  subst hK
  exact op_in_seq
theorem op_notInK (hK : X.K = K := by rfl) : OpR X (compareOp .NotIn) (rIn K true) := by
  subst hK
  exact op_notIn_seq
end
end L2.Ev
set_option maxHeartbeats 2000000
/-! The rules that lay a new object, said by what stands behind: all as before, and the new object. -/
namespace L2.Ev
open PySem PySem.Spec PyProof.Rows
theorem OpR.give {X : Cx} {f : Value → Value → Sem Value} {r r' : R2} (h : OpR X f r) (k : ∀ x y H Q, r' x y H Q → r x y H Q) : OpR X f r' :=
  fun pins s σ H x y v u Q I rx ry q => h pins s σ H x y v u Q I rx ry (k _ _ _ _ q)
theorem CallR.give {X : Cx} {f : Value} {r r' : List V → Hp → VK → Prop} (h : CallR X f r) (k : ∀ xs H Q, r' xs H Q → r xs H Q) : CallR X f r' :=
  fun pins s σ H xs us Q I rx q => h pins s σ H xs us Q I rx (k _ _ _ q)
/-- behind: all as it was, and o at p -/
def Lays (H : Hp) (o : HO) (Q : VK) : Prop := ∀ p H', H p = none → Same H H' → H' p = some o → Q (.ref p) H'
theorem Lays.at {H : Hp} {o : HO} {Q : VK} (h : Lays H o Q) (p : Addr) (n : H p = none) : Q (.ref p) (L2.upd H p o) := h p _ n (Same.new (Same.refl H) n) upd_same
section
variable {X : Cx} {K : PySem.W.Frag} {es : List Expr} {t : TA} {pos : Pos}
def tLstS (t : TA) : TE := fun σ H Q => t σ H fun xs H1 => xs.length ≤ sizeLine ∧ Lays H1 (.lst xs) Q
def tTupS (t : TA) : TE := fun σ H Q => t σ H fun xs H1 => xs.length ≤ sizeLine ∧ Lays H1 (.tup xs) Q
theorem pe_tupS {x1} (h : PA X es t) : PE X (.Tuple es x1 pos) (tTupS t) := by
  refine ⟨fun pins s σ H Q I hq => ?_⟩
  refine wpAny_Tuple_spliced (thn (h.run pos pins s σ H _ I hq) fun us s1 ⟨xs, H1, J, rl, hz, q⟩ => ⟨by rw [← rl.length]; exact hz, ?_⟩)
  exact ⟨_, _, J.laid (t' := s1.toks) (o := .tup xs) (fun b u z => Heap.get?_push_of_some _ z) (Nat.le_refl _) (show ObjOk _ _ _ _ _ (.tup xs) from ⟨hz, us, rl, ⟨_, Heap.get?_push_size _ rfl, rfl, _, rfl⟩⟩), (show RelV (.ref s1.heap.objs.size) _ from rfl), q.at _ (J.hok.fresh (Nat.le_refl _))⟩
theorem pe_lstS (h : PA X es t) : PE X (.List es pos) (tLstS t) := by
  refine ⟨fun pins s σ H Q I hq => ?_⟩
  refine wpAny_List_spliced (thn (h.run pos pins s σ H _ I hq) fun us s1 ⟨xs, H1, J, rl, hz, q⟩ => ⟨by rw [← rl.length]; exact hz, ?_⟩)
  exact ⟨_, _, J.laid (t' := s1.toks) (o := .lst xs) (fun b u z => Heap.get?_push_of_some _ z) (Nat.le_refl _) (show ObjOk _ _ _ _ _ (.lst xs) from ⟨hz, us, 0, rl, Heap.get?_push_size _ rfl⟩), (show RelV (.ref s1.heap.objs.size) _ from rfl), q.at _ (J.hok.fresh (Nat.le_refl _))⟩
def rCatS : R2 := fun x y H Q => ∃ l b xs zs, x = .ref l ∧ y = .ref b ∧ H l = some (.lst xs) ∧ H b = some (.lst zs) ∧ xs.length + zs.length ≤ sizeLine ∧ Lays H (.lst (xs ++ zs)) Q
theorem op_catS : OpR X (binaryOp .Add) rCatS := OpR.give op_cat fun x y H Q ⟨l, b, xs, zs, h1, h2, h3, h4, h5, q⟩ => ⟨l, b, xs, zs, h1, h2, h3, h4, h5, fun p n => q.at p n⟩
def rListS (K : PySem.W.Frag) : List V → Hp → VK → Prop := fun xs H Q => ∃ p ys, xs = [.ref p] ∧ (SqL K H p ys ∨ SqT K H p ys) ∧ Lays H (.lst ys) Q
theorem list_ofS (hK : X.K = K := by rfl) : CallR X (.type "list") (rListS K) := CallR.give (list_ofK hK) fun xs H Q ⟨p, ys, h1, h2, q⟩ => ⟨p, ys, h1, h2, fun p n => q.at p n⟩
def rCutS (K : PySem.W.Frag) : V → Option Int → Option Int → Hp → VK → Prop := fun x lo hi H Q => ∃ a xs, x = .ref a ∧ SqL K H a xs ∧ Lays H (.lst (cutV xs lo hi)) Q
theorem sl_listS (hK : X.K = K := by rfl) : SlR X (rCutS K) := fun pins s σ H x v vl vu lo hi sl Q I rx hs pl pu ⟨a, xs, h1, h2, q⟩ => sl_listK hK pins s σ H x v vl vu lo hi sl Q I rx hs pl pu ⟨a, xs, h1, h2, fun p n => q.at p n⟩
end
/-! ### errors with fields -/
/-- an error of the class at C with the fields stands at a -/
def ErrAt (H : Hp) (a C : Addr) (fs : List (Str × V)) : Prop := ∃ dx, H a = some (exo a C (some dx)) ∧ H dx = some (exd dx fs)
theorem ErrAt.same {H H' : Hp} {a C : Addr} {fs : List (Str × V)} (e : ErrAt H a C fs) (s : Same H H') : ErrAt H' a C fs := let ⟨dx, h1, h2⟩ := e; ⟨dx, s _ _ h1, s _ _ h2⟩
theorem ErrAt.is {H : Hp} {a C : Addr} {fs : List (Str × V)} (e : ErrAt H a C fs) : IsEx H a C := let ⟨dx, h1, h2⟩ := e; .inl ⟨dx, _, h1, h2⟩
theorem lookup1 (f : Str) (v : V) : ([(f, v)] : List (Str × V)).lookup f = some v := by simp [List.lookup]
def sp_ini1 (C : Addr) (f : Str) : Sp := fun vs H Q _ => ∃ (a : Addr) (v : V), vs = [.ref a, v] ∧ H a = some (exo a C none) ∧
  ∀ dx, H dx = none → dx ≠ a → Q .non (L2.upd (L2.upd H dx (exd dx [(f, v)])) a (exo a C (some dx)))
/-- C(e), an error with one field -/
def tMk1 (C : Addr) (f : Str) (te : TE) : TE := fun σ H Q => te σ H fun v H1 => ∀ a H', H1 a = none → Same H1 H' → ErrAt H' a C [(f, v)] → Q (.ref a) H'
theorem pe_mk1 {X : Cx} {x : Str} {C fI : Addr} {k : Nat} {fd : FuncData} {ps : List Str} {f : Str} {e : Expr} {te : TE} {p pos : Pos} (T : OexC X.K C)
    (iC : PySem.W.findIn X.K (.ref C) "__init__" = some (some (.ref fI))) (tI : PySem.W.typeIn X.K (.ref fI) = some (.type "function"))
    (F1 : FnOk X.prog X.w X.K X.mg X.base CX0 k fI fd ps (sp_ini1 C f)) (hr : Room (k + 1) X.A) (hb : Binds X.K fd ps []) (hg : Gl X x) (hm : X.mg x = some (.ref C)) (ha : PE X e te)
    (hdb : (x == ("__debug__" : Str)) = false := by decide) (he : starEach [e] X.env = (false, eval e X.env) :: starEach [] X.env := by rfl) :
    PE X (.Call (.Name x p) [e] [] pos) (tMk1 C f te) := by
  refine ⟨fun pins s σ H Q I h => ?_⟩
  -- the argument's reading, with what is wanted of its value
  have R : PE X (.Call (.Name x p) [e] [] pos) (tMkV C (sp_ini1 C f) (tCons (fun σ' H' Q' => σ' = σ ∧ H' = H ∧ ∀ v H1, (∀ a H', H1 a = none → Same H1 H' → ErrAt H' a C [(f, v)] → Q (.ref a) H') → Q' v H1) tNil)) :=
    pe_mkV T iC tI F1 hr hb hg hm (pa_cons ⟨fun pins s σ' H' Q' I' ⟨e1, e2, q⟩ => by
      subst e1 e2
      exact thn (ha.run pins s _ _ _ I' h) fun v s1 ⟨y, H1, J, r, z⟩ => ⟨y, H1, J, r, q y H1 z⟩⟩ pa_nil he) hdb he (by rfl)
  refine R.run pins s σ H Q I ⟨rfl, rfl, fun v H1 z => ?_⟩
  refine ⟨by show 1 ≤ 1000; decide, fun a h1 => ⟨a, v, rfl, upd_same, fun dx h2 ne => ⟨rfl, ?_⟩⟩⟩
  have hd : H1 dx = none := by
    rw [upd_ne ne] at h2
    exact h2
  exact z a _ h1 (Same.own (Same.own (Same.own (Same.refl H1) h1) hd) h1) ⟨dx, upd_same, by rw [upd_ne ne, upd_same]⟩
/-- C() -/
theorem pe_mk0 {X : Cx} {C : Addr} {bmB : List Value} {B newId initId : String} {x : Str} {p pos : Pos} (F : ExcBaseFacts B newId initId bmB) (q : PySem.W.excIn X.K C bmB newId = true) (gC : X.mg x = some (.ref C)) (kC : PySem.W.keepIn X.K (.ref C) = true) (hg : Gl X x)
    (hdb : (x == ("__debug__" : Str)) = false := by decide) :
    PE X (.Call (.Name x p) [] [] pos) (fun _ H Q => ∀ a H', H a = none → Same H H' → IsEx H' a C → Q (.ref a) H') :=
  ⟨fun pins s σ H Q I h => (pe_mkV0 F q gC kC hg hdb).run pins s σ H Q I fun a n => h a _ n (Same.new (Same.refl H) n) (.inr upd_same)⟩
/-- what a reading gives, closed upward -/
def up (te : TE) : TE := fun σ H Q => ∃ P : VK, te σ H P ∧ ∀ v H', P v H' → Q v H'
theorem pe_up {X : Cx} {e : Expr} {te : TE} (h : PE X e te) : PE X e (up te) :=
  ⟨fun pins s σ H Q I ⟨P, hP, k⟩ => thn (h.run pins s σ H P I hP) fun v s1 ⟨y, H1, J, r, z⟩ => ⟨y, H1, J, r, k y H1 z⟩⟩
/-! ### a list comprehension that only lays new things -/
theorem lc_grow {J : It} {n : Nat} {g : TG} {tt : TT} {te : TE} {vs : List Nat} {σ : St} {H1 : Hp} {D : Addr} {Qd : Hp → Prop} (hD : H1 D = none) (R : Nat → List V → Hp → Prop)
    (mono : ∀ i acc H o, R i acc H → (∃ u, H D = some (.lst u)) → R i acc (L2.upd H D o)) (h0 : ∀ H, Same H1 H → R 0 [] H)
    (hgo : ∀ i H, i < n → Same H1 H → J.go i H) (hst : ∀ H, Same H1 H → J.stop n H) (hn : n < sizeLine)
    (hs : ∀ i acc H (F : V → Hp → Prop) (G : Hp → Prop), (∀ y H4, Same H H4 → R (i + 1) (acc ++ [y]) H4 → F y H4) → (∀ H3, Same H H3 → R (i + 1) acc H3 → G H3) →
      i < n → Same H1 H → H D = some (.lst acc) → R i acc H → ∀ x H', J.yld i H x H' → g x (wipe σ vs) H' fun σ2 H2 => wipe σ2 vs = wipe σ vs ∧ tt σ2 H2 fun b H3 => if b = true then te σ2 H3 F else G H3)
    (hd : ∀ acc H, Same H1 H → H D = some (.lst acc) → R n acc H → Qd H) :
    ∃ W : Nat → Nat → Hp → Prop, (∃ m, W 0 m (L2.upd H1 D (.lst []))) ∧ ∀ i m H, W i m H → (J.stop i H ∧ Qd H) ∨ (J.go i H ∧ ∃ Nx : Hp → Prop, (∀ H', Nx H' → ∃ m', m' < m ∧ W (i + 1) m' H') ∧
      ∀ x H', J.yld i H x H' → g x (wipe σ vs) H' fun σ2 H2 => wipe σ2 vs = wipe σ vs ∧ tt σ2 H2 fun b H3 =>
        if b = true then te σ2 H3 fun y H4 => ∃ acc, H4 D = some (.lst acc) ∧ acc.length < sizeLine ∧ Nx (L2.upd H4 D (.lst (acc ++ [y]))) else Nx H3) := by
  refine ⟨fun i m H => i + m = n ∧ Same H1 H ∧ ∃ acc, H D = some (.lst acc) ∧ acc.length ≤ i ∧ R i acc H, ⟨n, by omega, Same.new (Same.refl H1) hD, [], upd_same, Nat.le_refl 0, h0 _ (Same.new (Same.refl H1) hD)⟩, ?_⟩
  rintro i m H ⟨e, s1, acc, ha, hl, r⟩
  rcases Nat.lt_or_ge i n with hi | hi
  · refine .inr ⟨hgo i H hi s1, fun H' => Same H1 H' ∧ ∃ acc, H' D = some (.lst acc) ∧ acc.length ≤ i + 1 ∧ R (i + 1) acc H', fun H' q => ⟨m - 1, by omega, by omega, q⟩, fun x H' y => ?_⟩
    refine hs i acc H _ _ (fun y H4 t z => ?_) (fun H3 t z => ⟨s1.trans t, acc, t _ _ ha, by omega, z⟩) hi s1 ha r x H' y
    have e4 := t _ _ ha
    exact ⟨acc, e4, Nat.lt_of_le_of_lt hl (Nat.lt_trans hi hn), Same.own (s1.trans t) hD, acc ++ [y], upd_same, by rw [List.length_append]; simp; omega, mono _ _ _ _ z ⟨_, e4⟩⟩
  · have z : i = n := by omega
    subst z
    exact .inl ⟨hst H s1, hd acc H s1 ha r⟩
end L2.Ev
namespace L2.Ev
open PySem PySem.Spec PyProof.Rows
section
variable {X : Cx}
def rAppendS : V → List V → Hp → VK → Prop := fun x vs H Q => ∃ l xs y, x = .ref l ∧ vs = [y] ∧ H l = some (.lst xs) ∧ xs.length < sizeLine ∧ ∀ H', But l H H' → H' l = some (.lst (xs ++ [y])) → Q .non H'
theorem mt_appendS : MtR X "list.append" rAppendS := fun pins s σ H x v vs us Q I rx rv ⟨l, xs, y, h1, h2, h3, h4, q⟩ =>
  mt_append pins s σ H x v vs us Q I rx rv ⟨l, xs, y, h1, h2, h3, h4, q _ (But.self (But.refl l H)) upd_same⟩
end
theorem Same.but {B H H' : Hp} {l : Addr} (s : Same B H) (n : B l = none) (b : But l H H') : Same B H' := fun c o e => b c o (fun z => by rw [z, n] at e; cases e) (s c o e)
theorem wipe1 (σ : St) (i : Nat) (x : V) : wipe ((wipe σ [i]).set i (some x)) [i] = wipe σ [i] := by
  show ((σ.set i none).set i (some x)).set i none = σ.set i none
  rw [List.set_set, List.set_set]
theorem wiped (σ : St) (i : Nat) (x : V) (h : i < σ.length) : ((wipe σ [i]).set i (some x))[i]? = some (some x) := by
  show ((σ.set i none).set i (some x))[i]? = some (some x)
  rw [List.getElem?_set_self (by rw [List.length_set]; exact h)]
theorem wiped_ne (σ : St) (i j : Nat) (x : V) (h : i ≠ j) : ((wipe σ [i]).set i (some x))[j]? = σ[j]? := by
  show ((σ.set i none).set i (some x))[j]? = σ[j]?
  rw [List.getElem?_set_ne h, List.getElem?_set_ne h]
theorem exo_lst {e C : Addr} {d : Option Addr} {xs : List V} : exo e C d ≠ .lst xs := fun z => by
  have z' : HO.ext _ = HO.lst xs := z
  cases z'
theorem exd_lst {e : Addr} {fs : List (Str × V)} {xs : List V} : exd e fs ≠ .lst xs := fun z => by
  have z' : HO.ext _ = HO.lst xs := z
  cases z'
theorem exO_lst {e : Addr} {c : Value} {xs : List V} : ExO c e ≠ .lst xs := fun z => by
  have z' : HO.ext _ = HO.lst xs := z
  cases z'
/-- a list is no error, nor an error's dict -/
theorem IsEx.off {H : Hp} {a C f : Addr} {xs : List V} {o : HO} (e : IsEx H a C) (h : H f = some (.lst xs)) : IsEx (L2.upd H f o) a C := by
  rcases e with ⟨dx, fs, h1, h2⟩ | h1
  · exact .inl ⟨dx, fs, by rw [upd_ne (ne_of h1 h exo_lst)]; exact h1, by rw [upd_ne (ne_of h2 h exd_lst)]; exact h2⟩
  · exact .inr (by rw [upd_ne (ne_of h1 h exO_lst)]; exact h1)
theorem ErrAt.off {H : Hp} {a C f : Addr} {xs : List V} {o : HO} {fs : List (Str × V)} (e : ErrAt H a C fs) (h : H f = some (.lst xs)) : ErrAt (L2.upd H f o) a C fs := by
  obtain ⟨dx, h1, h2⟩ := e
  exact ⟨dx, by rw [upd_ne (ne_of h1 h exo_lst)]; exact h1, by rw [upd_ne (ne_of h2 h exd_lst)]; exact h2⟩
/-- [C(x) for x in xs], C an error with one field -/
theorem lc_errs {K : PySem.W.Frag} {C a : Addr} {f : Str} {i j : Nat} {xs : List V} {σ : St} {H : Hp} {Q : VK} (hi : σ[i]? = some (some (.ref a))) (hj : j < σ.length) (ha : H a = some (.lst xs)) (hl : xs.length < sizeLine)
    (k : ∀ (D : Addr) (H' : Hp) (es : List Addr), H D = none → Same H H' → H' D = some (.lst (es.map V.ref)) → es.length = xs.length → (∀ (n : Nat) e x, es[n]? = some e → xs[n]? = some x → ErrAt H' e C [(f, x)]) → Q (.ref D) H') :
    tLc (iList K (tVar i)) (gName j) tYes (tMk1 C f (tVar j)) [j] σ H Q := by
  refine ⟨_, hi, a, rfl, ⟨_, SqL.of ha⟩, fun D hD => ?_⟩
  refine lc_grow (n := xs.length) hD (fun m acc H' => ∃ es : List Addr, acc = es.map V.ref ∧ es.length = m ∧ ∀ (n : Nat) e x, es[n]? = some e → xs[n]? = some x → ErrAt H' e C [(f, x)]) ?_ ?_ ?_ ?_ hl ?_ ?_
  · rintro m acc H' o ⟨es, e1, e2, e3⟩ ⟨u, hu⟩
    exact ⟨es, e1, e2, fun n e x h1 h2 => (e3 n e x h1 h2).off hu⟩
  · intro H' _
    exact ⟨[], rfl, rfl, fun n e x h1 => absurd h1 (by simp)⟩
  · intro m H' hm s
    exact ⟨xs, xs[m], SqL.of (s _ _ ha), by simp [hm]⟩
  · intro H' s
    exact ⟨xs, SqL.of (s _ _ ha), Nat.le_refl _⟩
  · rintro m acc H' F G hF hG hm s hacc ⟨es, e1, e2, e3⟩ x H2 ⟨rfl, hx⟩
    have hx' := hx xs (SqL.of (s _ _ ha))
    refine ⟨wipe1 σ j x, ?_⟩
    refine ⟨_, wiped σ j x hj, fun e H3 he s3 hE => hF _ _ s3 ?_⟩
    refine ⟨es ++ [e], by rw [e1, List.map_append]; rfl, by rw [List.length_append, e2]; rfl, fun n e' x' h1 h2 => ?_⟩
    rcases Nat.lt_or_ge n es.length with z | z
    · rw [List.getElem?_append_left z] at h1
      exact (e3 n e' x' h1 h2).same s3
    · have hn : n = m := by
        have q := (List.getElem?_eq_some_iff.mp h1).1
        rw [List.length_append] at q
        simp at q
        omega
      subst hn
      rw [List.getElem?_append_right z, e2, Nat.sub_self] at h1
      cases h1
      rw [hx'] at h2
      cases h2
      exact hE
  · rintro acc H' s hacc ⟨es, e1, e2, e3⟩
    exact k D H' es hD s (e1 ▸ hacc) e2 e3
end L2.Ev
namespace L2.Ev
open PySem PySem.Spec PyProof.Rows
/-! ### from a block's reading to the reading of its next piece -/
section
variable {t u : TS} {D : Ends} {σ : St} {H : Hp} {i j : Nat} {v : V} {P : St → Hp → Prop} {ta : TA} {te : TE} {tr : TA} {QA : List V → Hp → Prop} {g : TG} {Q : VK}
theorem in_name (h : P (σ.set i (some v)) H) : gName i v σ H P := h
theorem in_seq (h : t { D with nx := u D } σ H) : tSeq t u D σ H := h
theorem in_par (h : ta σ H fun vs H1 => ∃ v w, vs = [v, w] ∧ D.nx ((σ.set i (some v)).set j (some w)) H1) : tPar i j ta D σ H := h
theorem in_cons (h : te σ H fun x H1 => tr σ H1 fun xs H2 => QA (x :: xs) H2) : tCons te tr σ H QA := h
theorem in_nil (h : QA [] H) : tNil σ H QA := h
theorem in_asg (h : te σ H fun x H1 => g x σ H1 D.nx) : tAsg te g D σ H := h
theorem in_ret (h : te σ H D.rt) : tRet te D σ H := h
theorem in_drop (h : te σ H fun _ H1 => D.nx σ H1) : tDrop te D σ H := h
theorem in_next (h : D.nx σ H) : tNext D σ H := h
end
end L2.Ev
namespace L2.Ev
open PySem PySem.Spec PyProof.Rows
/-- as lc_grow, but an object at p may change on the way -/
theorem lc_growB {J : It} {n : Nat} {g : TG} {tt : TT} {te : TE} {vs : List Nat} {σ : St} {H1 : Hp} {D p : Addr} {Qd : Hp → Prop} (hD : H1 D = none) (hp : D ≠ p) (R : Nat → List V → Hp → Prop)
    (mono : ∀ i acc H o, R i acc H → (∃ u, H D = some (.lst u)) → R i acc (L2.upd H D o)) (h0 : ∀ H, Same H1 H → R 0 [] H)
    (hgo : ∀ i H, i < n → But p H1 H → J.go i H) (hst : ∀ H, But p H1 H → J.stop n H) (hn : n < sizeLine)
    (hs : ∀ i acc H (F : V → Hp → Prop) (G : Hp → Prop), (∀ y H4, But p H H4 → R (i + 1) (acc ++ [y]) H4 → F y H4) → (∀ H3, But p H H3 → R (i + 1) acc H3 → G H3) →
      i < n → But p H1 H → H D = some (.lst acc) → R i acc H → ∀ x H', J.yld i H x H' → g x (wipe σ vs) H' fun σ2 H2 => wipe σ2 vs = wipe σ vs ∧ tt σ2 H2 fun b H3 => if b = true then te σ2 H3 F else G H3)
    (hd : ∀ acc H, But p H1 H → H D = some (.lst acc) → R n acc H → Qd H) :
    ∃ W : Nat → Nat → Hp → Prop, (∃ m, W 0 m (L2.upd H1 D (.lst []))) ∧ ∀ i m H, W i m H → (J.stop i H ∧ Qd H) ∨ (J.go i H ∧ ∃ Nx : Hp → Prop, (∀ H', Nx H' → ∃ m', m' < m ∧ W (i + 1) m' H') ∧
      ∀ x H', J.yld i H x H' → g x (wipe σ vs) H' fun σ2 H2 => wipe σ2 vs = wipe σ vs ∧ tt σ2 H2 fun b H3 =>
        if b = true then te σ2 H3 fun y H4 => ∃ acc, H4 D = some (.lst acc) ∧ acc.length < sizeLine ∧ Nx (L2.upd H4 D (.lst (acc ++ [y]))) else Nx H3) := by
  refine ⟨fun i m H => i + m = n ∧ But p H1 H ∧ ∃ acc, H D = some (.lst acc) ∧ acc.length ≤ i ∧ R i acc H, ⟨n, by omega, But.new (But.refl p H1) hD, [], upd_same, Nat.le_refl 0, h0 _ (Same.new (Same.refl H1) hD)⟩, ?_⟩
  rintro i m H ⟨e, s1, acc, ha, hl, r⟩
  rcases Nat.lt_or_ge i n with hi | hi
  · refine .inr ⟨hgo i H hi s1, fun H' => But p H1 H' ∧ ∃ acc, H' D = some (.lst acc) ∧ acc.length ≤ i + 1 ∧ R (i + 1) acc H', fun H' q => ⟨m - 1, by omega, by omega, q⟩, fun x H' y => ?_⟩
    refine hs i acc H _ _ (fun y H4 t z => ?_) (fun H3 t z => ⟨s1.trans t, acc, t _ _ hp ha, by omega, z⟩) hi s1 ha r x H' y
    have e4 := t _ _ hp ha
    exact ⟨acc, e4, Nat.lt_of_le_of_lt hl (Nat.lt_trans hi hn), But.own (s1.trans t) hD, acc ++ [y], upd_same, by rw [List.length_append]; simp; omega, mono _ _ _ _ z ⟨_, e4⟩⟩
  · have z : i = n := by omega
    subst z
    exact .inl ⟨hst H s1, hd acc H s1 ha r⟩
end L2.Ev
set_option maxHeartbeats 2000000
/-! any and all of a generator expression over anything, its element any expression that gives a bool. -/
namespace L2.Gq
open PySem PySem.Spec PyProof.Rows GenW

/-! ### the one who asks -/
/-- a bool comes out; the asker stops at «stop» -/
def QY (stop : Bool) (Fb : Bool → Shared → Prop) (a : Addr) (g : Nat) : Protocol := fun _ _ v z kap =>
  ∃ t : Bool, v = .bool t ∧ AllBare z.gens ∧ z.heap.IsGen a g ∧ z.heap.NoLimit ∧
    (t = stop → ∀ gs, AllBare gs → Fb stop { z with gens := gs }) ∧ (t ≠ stop → ∀ gs, AllBare gs → kap (.send .none) { z with gens := gs })
/-- nothing more comes -/
def QF (stop : Bool) (Fb : Bool → Shared → Prop) : Nat → Shared → Shared → Prop := fun _ _ z =>
  AllBare z.gens ∧ ∀ gs hp, AllBare gs → (∀ b o, z.heap.get? b = some o → hp.get? b = some o) → Fb (!stop) { z with gens := gs, heap := hp }
def QR (stop : Bool) (Fb : Bool → Shared → Prop) : GenEnd := fun n z r y =>
  ((r = .ok (.ret .none) ∨ r = .ok .next) ∧ QF stop Fb n z y) ∨ ∃ e, r = .error e ∧ (fun (_ : Value) (_ : Shared) => False) e y
section
variable {P : Program} {w : World} {A : Around} {R : Result → Shared → Prop} {a : Addr} {g : Nat} {Fb : Bool → Shared → Prop}
/-- one question -/
theorem ask1 {stop : Bool} {B : Around} (hh : B.handled = none) (hd : B.depth < recursionLimit) {n : Nat} {s : Shared} {gs : GenState} {Q : Option Value → Shared → Prop} {E : Value → Shared → Prop}
    (hg : s.heap.IsGen a g) (hl : s.heap.NoLimit) (hgs : s.gens[g]? = some gs)
    (hgo : gs.Goes (model P w) B.in1 (QR stop Fb) (QY stop Fb a g) n (.send .none) (s.setGen g .running))
    (hstop : ∀ y, Fb stop y → Q (some (.bool stop)) y) (hdone : ∀ y, Fb (!stop) y → Q none y)
    (hgo' : ∀ m y, n = m + 1 → y.heap.IsGen a g → y.heap.NoLimit → (∃ gs', y.gens[g]? = some gs' ∧ gs'.Goes (model P w) B.in1 (QR stop Fb) (QY stop Fb a g) m (.send .none) (y.setGen g .running)) → Q (some (.bool (!stop))) y) :
    wpAny (model P w) B (pyNext (.ref a)) Q E s := by
  have hlt : g < s.gens.size := (Array.getElem?_eq_some_iff.mp hgs).1
  refine wpAny_gsz (n := g + 1) hlt (next_genG (A := B) (F := QF stop Fb) (Er := fun _ _ => False) hh hl hd hg hgs hgo (fun v y gs' hb hv hsz => ?_) (fun y hp h' hk hsz => ?_) fun e y he => he.elim)
  · obtain ⟨t, rfl, bare, ig, nl, h1, h2⟩ := hv
    have hlt' : g < y.gens.size := by
      have q : (y.setGen g gs').gens.size = y.gens.size := setGen_size _ _ _
      have hsz' : g + 1 ≤ (y.setGen g gs').gens.size := hsz
      omega
    by_cases ht : t = stop
    · subst ht
      exact hstop _ (h1 rfl _ (allBare_setGen bare hb))
    · have et : t = !stop := by cases t <;> cases stop <;> simp_all
      subst et
      cases n with
      | zero => exact (h2 ht _ bare).elim
      | succ m =>
        refine hgo' m _ rfl ig nl ⟨gs', setGen_at hlt', ?_⟩
        exact h2 ht _ (allBare_setGen (s := y.setGen g gs') (allBare_setGen bare hb) rfl)
  · obtain ⟨bare, h1⟩ := hp
    exact hdone _ (h1 _ h' (allBare_setGen bare rfl) hk)

theorem all_turns (hh : A.handled = none) (hd : A.depth < recursionLimit) (hR : ∀ b y, Fb b y → R (.ok (.ret (.bool b))) y) :
    ∀ (n : Nat) (s : Shared), s.heap.IsGen a g → s.heap.NoLimit → (∃ gs, s.gens[g]? = some gs ∧ gs.Goes (model P w) A.in1.in1 (QR false Fb) (QY false Fb a g) n (.send .none) (s.setGen g .running)) →
      codeAny (model P w) A (.builtin "all.loop" ⟨[.ref a], []⟩) R s := by
  intro n
  induction n using Nat.strongRecOn with
  | ind n ih =>
    rintro s hg hl ⟨gs, hgs, hgo⟩
    refine codeAny_builtin F.entry_all_loop ?_
    rw [Around.under_plainId F.plain_all_loop _]
    show wpAny _ A.in1 (pyNext (.ref a) >>= _) _ _ s
    refine wpAny_bind (ask1 (B := A.in1) hh hd hg hl hgs hgo (fun y hy => ?_) (fun y hy => ?_) fun m y hn ig nl hq => ?_)
    · refine wpAny_bind (wpAny_holding (wpAny_truthy_bool ?_))
      refine wpAny_bind (wpAny_letGo ?_)
      simp only [Bool.false_eq_true, if_false]
      exact wpAny_bind (wpAny_rule (wpAny_pure (hR false y hy)))
    · exact wpAny_bind (wpAny_rule (wpAny_pure (hR true y hy)))
    · refine wpAny_bind (wpAny_holding (wpAny_truthy_bool ?_))
      refine wpAny_bind (wpAny_letGo ?_)
      simp only [Bool.not_false, if_true]
      exact wpAny_pure ⟨plainId_quiet F.plain_all_loop _, ih m (by omega) y ig nl hq⟩
theorem any_turns (hh : A.handled = none) (hd : A.depth < recursionLimit) (hR : ∀ b y, Fb b y → R (.ok (.ret (.bool b))) y) :
    ∀ (n : Nat) (s : Shared), s.heap.IsGen a g → s.heap.NoLimit → (∃ gs, s.gens[g]? = some gs ∧ gs.Goes (model P w) A.in1.in1 (QR true Fb) (QY true Fb a g) n (.send .none) (s.setGen g .running)) →
      codeAny (model P w) A (.builtin "any.loop" ⟨[.ref a], []⟩) R s := by
  intro n
  induction n using Nat.strongRecOn with
  | ind n ih =>
    rintro s hg hl ⟨gs, hgs, hgo⟩
    refine codeAny_builtin F.entry_any_loop ?_
    rw [Around.under_plainId F.plain_any_loop _]
    show wpAny _ A.in1 (pyNext (.ref a) >>= _) _ _ s
    refine wpAny_bind (ask1 (B := A.in1) hh hd hg hl hgs hgo (fun y hy => ?_) (fun y hy => ?_) fun m y hn ig nl hq => ?_)
    · refine wpAny_bind (wpAny_holding (wpAny_truthy_bool ?_))
      refine wpAny_bind (wpAny_letGo ?_)
      simp only [if_true]
      exact wpAny_bind (wpAny_rule (wpAny_pure (hR true y hy)))
    · exact wpAny_bind (wpAny_rule (wpAny_pure (hR false y hy)))
    · refine wpAny_bind (wpAny_holding (wpAny_truthy_bool ?_))
      refine wpAny_bind (wpAny_letGo ?_)
      simp only [Bool.not_true, Bool.false_eq_true, if_false]
      exact wpAny_pure ⟨plainId_quiet F.plain_any_loop _, ih m (by omega) y ig nl hq⟩
/-- all(g), any(g): g fresh -/
theorem call_all_gen {s : Shared} {Q E : Value → Shared → Prop} {n : Nat} (hh : A.handled = none) (hd : A.depth < recursionLimit) (hg : s.heap.IsGen a g) (hl : s.heap.NoLimit)
    (hq : ∃ gs, s.gens[g]? = some gs ∧ gs.Goes (model P w) A.in1.in1 (QR false Fb) (QY false Fb a g) n (.send .none) (s.setGen g .running)) (hQ : ∀ b y, Fb b y → Q (.bool b) y) :
    wpAny (model P w) A (call (.builtin "all") [.ref a]) Q E s := by
  refine call_function_tree F.kind_all F.plain_all F.entry_all (F.args_all1 _) ?_
  unfold Builtin.«all»
  refine wpAny_bind (m := oneArg "all" _) (wpAny_pure ?_)
  refine wpAny_bind (wpAny_pyIter_gen hg ?_)
  exact wpAny_pure ⟨plainId_quiet F.plain_all_loop _, all_turns hh hd (fun b y h => hQ b y h) n s hg hl hq⟩
theorem call_any_gen {s : Shared} {Q E : Value → Shared → Prop} {n : Nat} (hh : A.handled = none) (hd : A.depth < recursionLimit) (hg : s.heap.IsGen a g) (hl : s.heap.NoLimit)
    (hq : ∃ gs, s.gens[g]? = some gs ∧ gs.Goes (model P w) A.in1.in1 (QR true Fb) (QY true Fb a g) n (.send .none) (s.setGen g .running)) (hQ : ∀ b y, Fb b y → Q (.bool b) y) :
    wpAny (model P w) A (call (.builtin "any") [.ref a]) Q E s := by
  refine call_function_tree F.kind_any F.plain_any F.entry_any (F.args_any1 _) ?_
  unfold Builtin.«any»
  refine wpAny_bind (m := oneArg "any" _) (wpAny_pure ?_)
  refine wpAny_bind (wpAny_pyIter_gen hg ?_)
  exact wpAny_pure ⟨plainId_quiet F.plain_any_loop _, any_turns hh hd (fun b y h => hQ b y h) n s hg hl hq⟩
end

/-! ### the one who answers -/
/-- the context of the generator's own frame -/
abbrev gx (X : Cx) (B : Around) (s : Shared) (H : Hp) (ce : Env) (fp : List Addr) (pn : List (Addr × Obj)) : Cx :=
  { X with A := B, s_0 := s, H_0 := H, env := ce, outer := X.stack, stack := ce :: X.stack, ex := fp, fn := fun _ => false, calm := true, pn := pn, xe := fun _ _ => False }
/-- its scope -/
structure GScp (N : List Str) (sc scope : Scope) (own : List (Str × Nat)) : Prop where
  blk : BlkOk N sc scope own
  co : scope.isCoroutine = false
  cell : ∀ y ∈ scope.names, y.2 ≠ .cell
  dot : scope.names.lookup (".0" : Str) = some NameKind.local
section
variable {X : Cx} {pins : List (Addr × Obj)} {σ : L2.St} {H : Hp} {s : Shared}
theorem gx_start {scope : Scope} {own : List (Str × Nat)} {fp : List Addr} {B : Around} {code : Value} {h5 : Heap} {gs : Array GenState} {tk : Nat} {a : Addr} {ga : Obj} {m : Str → Option Value} (I : Inv X pins σ H s) (ok : GScp X.N X.env.scope scope own) (hN : X.N.Nodup)
    (hfp : ∀ b ∈ fp, FpOk X pins H b ∧ b < s.heap.objs.size) (hBh : B.handled = none) (hBf : B.frames = some (genEnv scope (cloFrom X.env.cells scope.names []) s.heap.objs.size code builtinsNs X.env :: X.stack))
    (hk : ∀ b o, s.heap.get? b = some o → h5.get? b = some o) (hns : h5.Ns s.heap.objs.size m) (ha : h5.get? a = some ga) (hal : s.heap.objs.size < a) (hgd : ∀ v, ga.data ≠ .cell v) (hgs : AllBare gs) :
    Inv (gx X B s H (genEnv scope (cloFrom X.env.cells scope.names []) s.heap.objs.size code builtinsNs X.env) fp [(a, ga)]) [] (wipe σ (own.map (·.2))) H { s with heap := h5, gens := gs, toks := tk } := by
  have hfree : ∀ y ∈ scope.names, y.2 = .free → ∃ c, X.env.cells.lookup y.1 = some c := fun y hy e => by
    rcases ok.blk.free y hy e with k | k
    · exact I.ok.has _ (.inl k)
    · exact I.ok.has _ (.inr k)
  generalize hce : genEnv scope (cloFrom X.env.cells scope.names []) s.heap.objs.size code builtinsNs X.env = ce at hBf
  have cL : ce.locals = s.heap.objs.size := by subst hce; rfl
  have cC : ce.cells = cloFrom X.env.cells scope.names [] := by subst hce; rfl
  have cS : ce.scope = scope := by subst hce; rfl
  have cF : ce.frame = some ce.locals := by subst hce; rfl
  have cG : ce.globals = X.env.globals := by subst hce; rfl
  have cB : ce.builtins = builtinsNs := by subst hce; rfl
  have cm : ∀ {y c}, (y, c) ∈ cloFrom X.env.cells scope.names [] → X.env.cells.lookup y = some c ∧ c < s.heap.objs.size := fun {y c} hm => by
    rcases cloFrom_mem hm with hm | ⟨h1, rfl⟩
    · cases hm
    · obtain ⟨c, hc⟩ := hfree _ h1 rfl
      rw [hc]
      obtain ⟨w, z⟩ := I.cell _ _ hc
      exact ⟨rfl, z.lt⟩
  have mem : ∀ {y c}, ce.cells.lookup y = some c → X.env.cells.lookup y = some c ∧ c < s.heap.objs.size := fun {y c} e => by
    rw [cC] at e
    exact cm (PySem.mem_of_lookup e)
  have look : ∀ {y}, scope.names.lookup y = some .free → ∃ c, ce.cells.lookup y = some c ∧ X.env.cells.lookup y = some c := fun {y} hl => by
    obtain ⟨c', e'⟩ := mem_lookup (cloFrom_has (cells := X.env.cells) (acc := []) (PySem.mem_of_lookup hl))
    rw [← cC] at e'
    exact ⟨c', e', (mem e').1⟩
  have nocell : ∀ y, scope.names.lookup y ≠ some .cell := fun y e => ok.cell _ (PySem.mem_of_lookup e) rfl
  have okB : (gx X B s H ce fp [(a, ga)]).Ok := by
    refine ⟨I.ok.mod, ?_, ?_, cB, ?_, fun y z c e1 e2 => ?_, fun y hy => ?_, fun y c z _ => ?_, fun _ => hBh, hBf, .inr ⟨rfl, cF⟩, fun b hb => ⟨?_, fun y c e z => ?_⟩, I.bs, Nat.le_trans I.ok.bsz I.sz, fun b o e hb => ?_, fun b hb z => ?_, I.stack, I.stkFree⟩
    · show ce.scope.kind = _; rw [cS]; exact ok.blk.kind
    · show ce.globals = _; rw [cG]; exact I.ok.glob
    · show s.heap.objs.size ≤ ce.locals; rw [cL]; exact Nat.le_refl _
    · exact I.ok.inj y z c (mem (c := c) e1).1 (mem (c := c) e2).1
    · have hy : ce.scope.names.lookup y = some .cell ∨ ce.scope.names.lookup y = some .free := hy
      rw [cS] at hy
      rcases hy with hy | hy
      · exact absurd hy (nocell y)
      · obtain ⟨c, h1, _⟩ := look hy
        exact ⟨c, h1⟩
    · exact absurd (show false = true from z) (by decide)
    · show b ≠ ce.locals
      rw [cL]; exact Nat.ne_of_lt (hfp b hb).2
    · exact (hfp b hb).1.2.2.2.2.1 y c (mem e).1 z
    · rcases (hfp b hb).1.2.2.2.1 with z | z
      · exact I.ok.noex b o e z
      · exact absurd (Nat.lt_of_lt_of_le (Heap.lt_size e) (Nat.le_trans I.ok.bsz z)) (Nat.lt_irrefl _)
    · rcases List.mem_cons.mp (I.stkSub b z) with z | z
      · exact (hfp b hb).1.2.1 z
      · exact (hfp b hb).1.2.2.1 z
  refine ⟨okB, rfl, hgs, Un.kept hk, ⟨m, ?_, fun i y av e1 e2 e3 => ?_⟩, fun y c e => ?_, ?_, fun y c e => ?_, fun p hp => ?_, I.hok.kept hk, by rw [wipe_length]; exact I.len⟩
  · show Heap.Ns _ ce.locals _
    rw [cL]; exact hns
  · obtain ⟨e2, hne⟩ := wipe_some e2
    have e3 : ce.scope.names.lookup y = some .local ∨ ce.scope.names.lookup y = some .cell ∨ ce.scope.names.lookup y = some .free := e3
    rw [cS] at e3
    have hfr : scope.names.lookup y = some .free := by
      rcases e3 with e | e | e
      · rcases ok.blk.own _ (PySem.mem_of_lookup e) (.inl rfl) with e' | e'
        · obtain ⟨p, hp, hpy⟩ := List.mem_map.mp e'
          have e4 := ok.blk.ix p hp
          have e5 : p.1 = y := hpy
          rw [e5] at e4
          exact absurd (List.mem_map.mpr ⟨p, hp, nodup_ix hN e4 e1⟩) hne
        · exact absurd (List.mem_of_getElem? e1) e'
      · exact absurd e (nocell y)
      · exact e
    obtain ⟨m0, hn0, hl⟩ := I.loc
    have hvis : Vis X.env.scope y := (ok.blk.free _ (PySem.mem_of_lookup hfr) rfl).elim (fun k => .inr (.inl k)) (fun k => .inr (.inr k))
    obtain ⟨w, r, q⟩ := hl i y av e1 e2 hvis
    obtain ⟨c, h1, h2⟩ := look hfr
    refine ⟨w, r, .inr ⟨.inr (show ce.scope.names.lookup y = _ by rw [cS]; exact hfr), c, h1, ?_⟩⟩
    rcases q with ⟨k, _⟩ | ⟨_, c', e', z⟩
    · have k : X.env.scope.names.lookup y = some .local := k
      rcases ok.blk.free _ (PySem.mem_of_lookup hfr) rfl with k' | k' <;> rw [show X.env.scope.names.lookup y = _ from k'] at k <;> cases k
    · rw [h2] at e'; cases e'
      exact z.keeps hk
  · obtain ⟨w, z⟩ := I.cell y c (mem e).1
    exact ⟨w, z.keeps hk⟩
  · show H ce.locals = none
    rw [cL]; exact I.hok.fresh (Nat.le_refl _)
  · exact I.freeC y c (mem e).1
  · have hp : p = (a, ga) := by simpa using (show p ∈ [(a, ga)] ++ ([] : List (Addr × Obj)) from hp)
    subst hp
    refine ⟨ha, I.hok.fresh (Nat.le_of_lt hal), ?_, fun z => ?_, hgd⟩
    · show a ≠ ce.locals
      rw [cL]; exact Nat.ne_of_gt hal
    · rcases List.mem_cons.mp (I.stkSub a z) with z | z
      · exact absurd (Nat.lt_trans I.lt (by rw [← z]; exact hal)) (Nat.lt_irrefl _)
      · exact I.nofs (Nat.le_of_lt hal) z
/-- the same, with another table of generators -/
theorem gens_any {gs : Array GenState} (I : Inv X pins σ H s) (h : AllBare gs) : Inv X pins σ H { s with gens := gs } :=
  ⟨I.ok, I.os, h, I.base, I.loc, I.cell, I.free, I.freeC, I.pin, I.hok, I.len⟩
/-- what a turn of the question wants -/
abbrev QTurn (J : It) (gt : TG) (tt : TT) (te : TE) (vs : List Nat) (σ : L2.St) (stop : Bool) (Qb : Bool → Hp → Prop) (W : Nat → Nat → Hp → Prop) : Prop := ∀ i m H, W i m H →
  (J.stop i H ∧ Qb (!stop) H) ∨ (J.go i H ∧ ∃ Nx : Hp → Prop, (∀ H', Nx H' → ∃ m', m' < m ∧ W (i + 1) m' H') ∧ ∀ x H', J.yld i H x H' → gt x (wipe σ vs) H' fun σ2 H2 => wipe σ2 vs = wipe σ vs ∧ tt σ2 H2 fun b H3 =>
    if b = true then te σ2 H3 fun y H4 => ∃ t : Bool, y = .bl t ∧ (t = stop → Qb stop H4) ∧ (t ≠ stop → Nx H4) else Nx H3)
theorem gx_turns {Ag : Around} {elt tg iter : Expr} {ifs : List Expr} {scope : Scope} {pos : Pos} {it a : Addr} {g : Nat} {ga : Obj} {ce : Env} {fp : List Addr} {tn : Nat → Heap → Prop} {J : It} {gt : TG} {tt : TT} {te : TE} {vs : List Nat} {stop : Bool} {Qb : Bool → Hp → Prop} {W : Nat → Nat → Hp → Prop} {Fb : Bool → Shared → Prop}
    (hco : ce.scope.isCoroutine = false) (T : Turn X.prog X.w X.K tg J fp it tn) (hig : ∀ h : Heap, h.get? a = some ga → h.IsGen a g) (haf : a ∉ fp)
    (pg : PG (gx X (Ag.over (.compLoop (.GeneratorExp elt [⟨tg, iter, ifs, 0⟩] scope pos) 0 (.ref it) .none ce) []) s H ce fp [(a, ga)]) tg gt)
    (pt : PTs (gx X (Ag.over (.compLoop (.GeneratorExp elt [⟨tg, iter, ifs, 0⟩] scope pos) 0 (.ref it) .none ce) []) s H ce fp [(a, ga)]) ifs tt)
    (pe : PE (gx X (Ag.over (.compLoop (.GeneratorExp elt [⟨tg, iter, ifs, 0⟩] scope pos) 0 (.ref it) .none ce) []) s H ce fp [(a, ga)]) elt te)
    (turn : QTurn J gt tt te vs σ stop Qb W)
    (back : ∀ (b : Bool) (pins' : List (Addr × Obj)) (σ' : L2.St) (H' : Hp) (y : Shared), Inv (gx X (Ag.over (.compLoop (.GeneratorExp elt [⟨tg, iter, ifs, 0⟩] scope pos) 0 (.ref it) .none ce) []) s H ce fp [(a, ga)]) pins' σ' H' y → Qb b H' →
      ∀ gs hp, AllBare gs → (∀ b o, y.heap.get? b = some o → hp.get? b = some o) → Fb b { y with gens := gs, heap := hp }) :
    ∀ (m n i : Nat) (z y : Shared) (H' : Hp), m < n → W i m H' → Inv (gx X (Ag.over (.compLoop (.GeneratorExp elt [⟨tg, iter, ifs, 0⟩] scope pos) 0 (.ref it) .none ce) []) s H ce fp [(a, ga)]) [] (wipe σ vs) H' y → tn i y.heap → (∀ b ∈ fp, H' b = none) →
      Seg (model X.prog X.w) Ag (QR stop Fb) (QY stop Fb a g) n z (.compLoop (.GeneratorExp elt [⟨tg, iter, ifs, 0⟩] scope pos) 0 (.ref it) .none ce)
        ((model X.prog X.w).den (.compLoop (.GeneratorExp elt [⟨tg, iter, ifs, 0⟩] scope pos) 0 (.ref it) .none ce)) [] y := by
  generalize hY : gx X (Ag.over (.compLoop (.GeneratorExp elt [⟨tg, iter, ifs, 0⟩] scope pos) 0 (.ref it) .none ce) []) s H ce fp [(a, ga)] = Y at pg pt pe back
  have yP : Y.prog = X.prog := by subst hY; rfl
  have yw : Y.w = X.w := by subst hY; rfl
  have yK : Y.K = X.K := by subst hY; rfl
  have yc : Y.calm = true := by subst hY; rfl
  have yA : Y.A = Ag.over (.compLoop (.GeneratorExp elt [⟨tg, iter, ifs, 0⟩] scope pos) 0 (.ref it) .none ce) [] := by subst hY; rfl
  have yE : Y.env = ce := by subst hY; rfl
  have yx : Y.xe = fun _ _ => False := by subst hY; rfl
  have yex : Y.ex = fp := by subst hY; rfl
  have ypn : Y.pn = [(a, ga)] := by subst hY; rfl
  have stat : ∀ {σ' : L2.St} {H' : Hp} {y : Shared}, Inv Y [] σ' H' y → (∀ b ∈ fp, H' b = none) → ∀ b ∈ fp, FpOk Y [] H' b := fun {σ' H' y} I' hn b hb =>
    ⟨hn b hb, (I'.ok.exf b (by rw [yex]; exact hb)).1, I'.ok.exfs b (by rw [yex]; exact hb), .inl (by rw [yex]; exact hb), fun x c e => (I'.ok.exf b (by rw [yex]; exact hb)).2 x c e, fun p hp e => by
      rw [ypn] at hp
      have hp : p = (a, ga) := by simpa using hp
      subst hp
      exact haf (by rw [show a = b from e]; exact hb)⟩
  intro m
  induction m using Nat.strongRecOn with
  | ind m ih =>
  intro n i z y H' hmn w0 I st nf
  obtain ⟨n, rfl⟩ : ∃ k, n = k + 1 := ⟨n - 1, by omega⟩
  show Seg _ Ag _ _ _ z _ ((compTurn (.GeneratorExp elt [⟨tg, iter, ifs, 0⟩] scope pos) 0 (.ref it) .none ce).onRaise (leaving ce)) [] y
  rw [compTurn_gen, Sem.onRaise_eq_wrap]
  refine seg_bind_wrap (wpAny_standAt ?_)
  rcases turn i m H' w0 with ⟨hst, hq⟩ | ⟨go, Nx, hNx, step⟩
  · have td := T.done Y yP yw yK yc i [] y _ H' (fun _ _ => False) I (stat I nf) st hst
    refine seg_bind_wrap ?_
    rw [← yA]
    refine thnF td fun r s6 ⟨hr, I6⟩ => ?_
    subst hr
    exact seg_end (.ok .next) (.inl ⟨.inr rfl, I6.bare, fun gs hp hb hk => back _ _ _ H' _ I6 hq gs hp hb hk⟩)
  · have ti := T.item Y yP yw yK yc i [] y _ H' (fun _ _ => False) I (stat I nf) st go
    refine seg_bind_wrap ?_
    rw [← yA]
    refine thnF ti fun r s6 ⟨u, hr, h6⟩ => ?_
    subst hr
    refine seg_bind_wrap ?_
    rw [← yA]
    refine thnF h6 fun _ s7 ⟨x, H7, I7, r7, y7, st7, n7⟩ => ?_
    have I7' := I7.pinned (stat I7 n7) (T.obj _ _ st7)
    have pg := pg.run _ s7 _ H7 x u _ I7' r7 (step x H7 y7)
    rw [yP, yw, yE, yx] at pg
    refine seg_bind_wrap ?_
    rw [← yA]
    refine thnF pg fun _ s8 ⟨σ8, H8, I8, hw8, q8⟩ => ?_
    have pt := pt.run _ s8 σ8 H8 _ I8 q8
    rw [yP, yw, yE, yx] at pt
    refine seg_bind_wrap ?_
    rw [← yA]
    refine thnF pt fun b s9 ⟨H9, I9, q9⟩ => ?_
    have fin : ∀ {y' : Shared} {H'' : Hp} {k : Nat} {z' : Shared}, Inv Y ([] ++ pinsAt fp s7.heap) σ8 H'' y' → Nx H'' → m ≤ k →
        Seg (model X.prog X.w) Ag (QR stop Fb) (QY stop Fb a g) k z' (.compLoop (.GeneratorExp elt [⟨tg, iter, ifs, 0⟩] scope pos) 0 (.ref it) .none ce)
          ((model X.prog X.w).den (.compLoop (.GeneratorExp elt [⟨tg, iter, ifs, 0⟩] scope pos) 0 (.ref it) .none ce)) [] y' := fun {y' H'' k z'} I' nx hk => by
      obtain ⟨m', hm, w'⟩ := hNx H'' nx
      have pin' : ∀ b ∈ fp, ∀ o, s7.heap.get? b = some o → y'.heap.get? b = some o ∧ H'' b = none := fun b hb o e =>
        let q := I'.pin (b, o) (List.mem_append_right _ (List.mem_append_right _ (mem_pinsAt hb e)))
        ⟨q.1, q.2.1⟩
      have hl : (wipe σ vs).length = σ8.length := by rw [← hw8, wipe_length]
      refine ih m' hm k (i + 1) z' y' H'' (by omega) w' ((I'.unpinned (pins := [])).weak hl (fun j v e => ?_)) (T.keep _ _ _ st7 fun b hb o e => (pin' b hb o e).1) (fun b hb => ?_)
      · rw [← hw8] at e
        exact (wipe_some e).1
      · obtain ⟨o, e, _⟩ := T.obj _ _ st7 b hb
        exact (pin' b hb o e).2
    cases b with
    | false =>
      simp only [Bool.false_eq_true, if_false] at q9 ⊢
      exact seg_again rfl (fin I9 q9 (by omega))
    | true =>
      simp only [if_true] at q9 ⊢
      have hyo : ∀ v, yieldOut ce v = yieldValue v := fun v => by simp only [yieldOut, hco, Bool.false_eq_true, if_false]
      simp only [hyo]
      have pe := pe.run _ s9 σ8 H9 _ I9 q9
      rw [yP, yw, yE, yx] at pe
      rw [Sem.bind_eq_wrap', Sem.bind_eq_wrap', Sem.wrap_wrap, Sem.wrap_wrap]
      refine seg_wrap ?_
      rw [← yA]
      refine thnF pe fun yv s10 ⟨yV, H10, I10, r10, t, et, hs, hn⟩ => ?_
      subst et
      have r10 : yv = .bool t := r10
      subst r10
      have pin : s10.heap.get? a = some ga := (I10.pin (a, ga) (by rw [ypn]; simp)).1
      refine seg_at (seg_yield rfl rfl rfl ⟨t, rfl, I10.bare, hig _ pin, I10.nolimit, fun e gs hb => ?_, fun e gs hb => ?_⟩)
      · exact back _ _ _ H10 s10 I10 (hs e) gs s10.heap hb fun _ _ z => z
      · exact seg_again rfl (fin (gens_any I10 hb) (hn e) (by omega))
/-! ### the rules -/
/-- a def's table of code objects: it may grow, the heap that is told of stays the same -/
def TabX (P : Addr) : HO := .ext fun h => ∃ ps : Array Value, h.get? P = some { cls := .none, data := .fields ps } ∧ TriplesOk ps.toList
theorem tabX_ok {P : Program} {w : World} {H : Hp} {h : Heap} {b : Addr} {ps : Array Value} (e : h.get? b = some { cls := .none, data := .fields ps }) (t : TriplesOk ps.toList) : ObjOk P w H h b (TabX b) :=
  ⟨⟨ps, e, t⟩, ⟨_, e⟩, fun _ _ ⟨qs, e1, t1⟩ k => ⟨qs, k _ e1, t1⟩⟩
theorem upd_same_fun {H : Hp} {b : Addr} {o : HO} (e : H b = some o) : L2.upd H b o = H := by
  funext c
  by_cases hc : c = b
  · subst hc; rw [upd_same, e]
  · rw [upd_ne hc]
theorem tab_grows {P : Addr} {h' : Heap} {tk : Nat} {ps : Array Value} (I : Inv X pins σ H s) (hP : H P = some (TabX P)) (k : ∀ b o, b ≠ P → s.heap.get? b = some o → h'.get? b = some o) (e : h'.get? P = some { cls := .none, data := .fields ps }) (t : TriplesOk ps.toList) :
    Inv X pins σ H { s with heap := h', toks := tk } := by
  have J := I.write (x := P) (e := P) (o := TabX P) (t' := tk) (by rw [hP]; trivial) (.inl rfl) (fun b u hb q => k b u hb q) ⟨_, e⟩ (tabX_ok e t)
  rw [upd_same_fun hP] at J
  exact J
/-- the reading of a question: what «stop» or the end gives -/
def tQ (P : Addr) (wi : TI) (gt : TG) (tt : TT) (te : TE) (vs : List Nat) (stop : Bool) : TE := fun σ H Q => wi σ H fun J H1 => H1 P = some (TabX P) ∧ ∃ W : Nat → Nat → Hp → Prop, (∃ m, W 0 m H1) ∧ QTurn J gt tt te vs σ stop (fun b H' => Q (.bl b) H') W
theorem gen_new {elt tg iter : Expr} {ifs : List Expr} {scope : Scope} {own : List (Str × Nat)} {gpos : Pos} {wi : TI} {gt : TG} {tt : TT} {te : TE} {k : Nat} {c P : Addr} {stop : Bool} {Q : VK} {Q' : Value → Shared → Prop} (hr : Room (k + 1) X.A)
    (TB : LamX.TabB X.base X.mg c P) (hcode : X.env.code = .ref c) (ok : GScp X.N X.env.scope scope own) (hN : X.N.Nodup) (hi : PI X tg iter wi)
    (hgt : ∀ (B : Around) (s : Shared) (H : Hp) (C : Addr) (cd : Value) (fp : List Addr) (pn : List (Addr × Obj)), Room k B → PG (gx X B s H (genEnv scope (cloFrom X.env.cells scope.names []) C cd builtinsNs X.env) fp pn) tg gt)
    (htt : ∀ (B : Around) (s : Shared) (H : Hp) (C : Addr) (cd : Value) (fp : List Addr) (pn : List (Addr × Obj)), Room k B → PTs (gx X B s H (genEnv scope (cloFrom X.env.cells scope.names []) C cd builtinsNs X.env) fp pn) ifs tt)
    (hte : ∀ (B : Around) (s : Shared) (H : Hp) (C : Addr) (cd : Value) (fp : List Addr) (pn : List (Addr × Obj)), Room k B → PE (gx X B s H (genEnv scope (cloFrom X.env.cells scope.names []) C cd builtinsNs X.env) fp pn) elt te)
    (hs : ∀ v, genFold iter X.env v = pure v) (I : Inv X pins σ H s) (h : tQ P wi gt tt te (own.map (·.2)) stop σ H Q)
    (hQ : ∀ a g n y, y.heap.IsGen a g → y.heap.NoLimit →
      (∃ gs, y.gens[g]? = some gs ∧ gs.Goes (model X.prog X.w) X.A.in1.in1 (QR stop fun b z => ∃ H', Inv X pins σ H' z ∧ Q (.bl b) H') (QY stop (fun b z => ∃ H', Inv X pins σ H' z ∧ Q (.bl b) H') a g) n (.send .none) (y.setGen g .running)) → Q' (.ref a) y) :
    wpAny (model X.prog X.w) X.A (eval (.GeneratorExp elt [⟨tg, iter, ifs, 0⟩] scope gpos) X.env) Q' X.xe s := by
  have hfree : ∀ y ∈ scope.names, y.2 = .free → ∃ c, X.env.cells.lookup y.1 = some c := fun y hy e => by
    rcases ok.blk.free y hy e with k | k
    · exact I.ok.has _ (.inl k)
    · exact I.ok.has _ (.inr k)
  refine wpAny_GeneratorExp_make ok.co (closure_ok hfree) ok.cell ok.dot ok.blk.kind hr.depth ?_ hs
  refine thn (hi.run pins s σ H _ I h) fun xv s1 hx => thn hx fun itv s2 h2 => ?_
  obtain ⟨it, fp, tn, J, H2, rfl, I2, T, st2, f2, hP, W, ⟨m0, w0⟩, turn⟩ := h2
  refine ⟨I2.nolimit, ?_⟩
  obtain ⟨⟨ps, hPs, htr⟩, _, _⟩ := (show ObjOk _ _ _ _ _ (TabX P) from I2.hok P _ hP)
  have cd : PySem.W.CodeHd s2.heap c P := TB.code.keeps I2.bk
  have nP : ∀ b ∈ fp, b ≠ P := fun b hb e => by
    have q := (f2 b hb).1
    rw [e, hP] at q
    cases q
  have cont : ∀ (code : Value) (s3 : Shared), Inv X pins σ H2 s3 → (∀ b o, b ≠ P → s2.heap.get? b = some o → s3.heap.get? b = some o) →
      wpAny (model X.prog X.w) X.A (builtinsFor X.env.globals X.env.builtins) (fun bi s4 =>
        ∀ h', h'.Ns s4.heap.objs.size (fun y => if y = ".0" then some (Value.ref it) else none) → Heap.SameBut s4.heap.objs.size (s4.heap.push { cls := .type "frame", data := .dict #[] }) h' →
          Q' (.ref h'.objs.size) { s4 with
            gens := s4.gens.push (.fresh (.compStart (.GeneratorExp elt [⟨tg, iter, ifs, 0⟩] scope gpos) 0 (.ref it) .none (genEnv scope (cloFrom X.env.cells scope.names []) s4.heap.objs.size code bi X.env))),
            toks := s4.toks + 1 + 1 + 1,
            heap := h'.push { cls := .type "generator", data := .fields #[.int s4.gens.size 0, .str "<genexpr>" (s4.toks + 1), .str (X.env.qual ++ "<genexpr>") (s4.toks + 1 + 1)] } }) X.xe s3 := by
    intro code s3 I3 k3
    obtain ⟨bm, ob, e1, e2, e3, e4, e5, e6, e7, e8⟩ := TB.bm
    refine wpAny_builtinsFor (m := X.mg) (by rw [I3.ok.glob]; exact I3.mod.glob.keeps I3.bk) e1 e2 (I3.bk _ _ e5) e6 e7 e8 ?_
    intro h' hn' hs'
    have hsz : h'.objs.size = s3.heap.objs.size + 1 := by rw [hs'.1, Heap.size_push]
    have kp : ∀ b o, s3.heap.get? b = some o → (h'.push { cls := .type "generator", data := .fields #[.int s3.gens.size 0, .str "<genexpr>" (s3.toks + 1), .str (X.env.qual ++ "<genexpr>") (s3.toks + 1 + 1)] }).get? b = some o :=
      fun b o e => Heap.get?_push_of_some _ (hs'.extBut b o (Nat.ne_of_lt (Heap.lt_size e)) (Heap.get?_push_of_some _ e))
    generalize hga : ({ cls := .type "generator", data := .fields #[.int s3.gens.size 0, .str "<genexpr>" (s3.toks + 1), .str (X.env.qual ++ "<genexpr>") (s3.toks + 1 + 1)] } : Obj) = ga at kp ⊢
    have hig : ∀ h : Heap, h.get? h'.objs.size = some ga → h.IsGen h'.objs.size s3.gens.size := fun h e => ⟨ga, _, _, e, by rw [← hga], by rw [← hga], by rw [← hga]⟩
    generalize hce : genEnv scope (cloFrom X.env.cells scope.names []) s3.heap.objs.size code builtinsNs X.env = ce
    have ceo : ce.scope.isCoroutine = false := by rw [← hce]; exact ok.co
    have hBf : (X.A.in1.in1.over (.compLoop (.GeneratorExp elt [⟨tg, iter, ifs, 0⟩] scope gpos) 0 (.ref it) .none ce) []).frames = some (ce :: X.stack) := by
      show (X.A.frames).map ([ce] ++ ·) = _
      rw [I.ok.frames]; rfl
    have hBr : Room k (X.A.in1.in1.over (.compLoop (.GeneratorExp elt [⟨tg, iter, ifs, 0⟩] scope gpos) 0 (.ref it) .none ce) []) :=
      ⟨hr.hd, by have := hr.dp; show X.A.depth + 0 + 1 + 3 * k + 5 < _; omega, by have := hr.un; show X.A.units + 1 + 1 + 0 + 3 + 16 * k + 200 < _; omega⟩
    have st3 : tn 0 s3.heap := T.keep _ _ _ st2 fun b hb o e => k3 b o (nP b hb) e
    have hfp : ∀ b ∈ fp, FpOk X pins H2 b ∧ b < s3.heap.objs.size := fun b hb => ⟨f2 b hb, by
      obtain ⟨o, e, _⟩ := T.obj _ _ st3 b hb
      exact Heap.lt_size e⟩
    have hnew : (h'.push ga).get? h'.objs.size = some ga := Heap.get?_push_size _ (by rw [← hga]; rfl)
    have bare : AllBare (s3.gens.push (.fresh (.compStart (.GeneratorExp elt [⟨tg, iter, ifs, 0⟩] scope gpos) 0 (.ref it) .none ce))) := I3.bare.push rfl
    have I5 := gx_start (gs := s3.gens.push (.fresh (.compStart (.GeneratorExp elt [⟨tg, iter, ifs, 0⟩] scope gpos) 0 (.ref it) .none ce))) (tk := s3.toks + 1 + 1 + 1) (code := code) (B := X.A.in1.in1.over (.compLoop (.GeneratorExp elt [⟨tg, iter, ifs, 0⟩] scope gpos) 0 (.ref it) .none ce) []) I3 ok hN hfp hr.hd (by rw [hce]; exact hBf) kp (hn'.push _) hnew (by omega) (fun v e => by rw [← hga] at e; cases e) bare
    rw [hce] at I5
    have turns := gx_turns (Fb := fun b z => ∃ H', Inv X pins σ H' z ∧ Q (.bl b) H') (g := s3.gens.size) (s := s3) (Ag := X.A.in1.in1) (elt := elt) (iter := iter) (scope := scope) (pos := gpos) ceo T hig (fun hb => by have q : h'.objs.size < s3.heap.objs.size := (hfp _ hb).2; rw [hsz] at q; exact absurd q (Nat.not_lt.mpr (Nat.le_succ _)))
      (by rw [← hce] at hBr ⊢; exact hgt _ s3 H2 _ code fp [(h'.objs.size, ga)] hBr) (by rw [← hce] at hBr ⊢; exact htt _ s3 H2 _ code fp [(h'.objs.size, ga)] hBr) (by rw [← hce] at hBr ⊢; exact hte _ s3 H2 _ code fp [(h'.objs.size, ga)] hBr) turn
      (fun b pins' σ' H' y Iy hq gs hp hgs hk => ⟨H', I3.call' (ch := fp) Iy.os (Iy.base.trans (Un.kept hk)) (Iy.hok.kept hk) hgs fun b hb => ⟨(f2 b hb).2.2.2.1, (f2 b hb).2.1, (f2 b hb).2.2.2.2.1, (f2 b hb).2.2.2.2.2⟩, hq⟩)
    refine hQ _ s3.gens.size (m0 + 1) _ (hig _ hnew) (I3.nolimit.keeps kp) ⟨_, Array.getElem?_push_size .., rfl, ?_⟩
    have I6 := gens_any I5 (gs := (Shared.setGen { s3 with gens := s3.gens.push (.fresh (.compStart (.GeneratorExp elt [⟨tg, iter, ifs, 0⟩] scope gpos) 0 (.ref it) .none ce)), toks := s3.toks + 1 + 1 + 1, heap := h'.push ga } s3.gens.size .running).gens) (allBare_setGen bare rfl)
    have st6 : tn 0 (h'.push ga) := T.keep _ _ _ st3 fun b _ o e => kp b o e
    have loop := fun z => turns m0 (m0 + 1) 0 z _ H2 (Nat.lt_succ_self _) w0 I6 st6 fun b hb => (hfp b hb).1.1
    show Seg _ _ _ _ _ _ _ ((compStart (.GeneratorExp elt [⟨tg, iter, ifs, 0⟩] scope gpos) 0 (.ref it) .none ce).onRaise (leaving ce)) [] _
    unfold compStart
    rw [Sem.onRaise_eq_wrap]
    refine seg_bind_wrap (wpAny_askSetting ?_)
    split
    · exact seg_again rfl (loop _)
    · refine seg_bind_wrap (wpAny_rule ?_)
      refine seg_bind_wrap (wpAny_standAt ?_)
      exact seg_bind_wrap (T.self _ 0 _ _ _ st6 (seg_again rfl (loop _)))
  cases hf : codeAmong gpos ps.toList with
  | none =>
    refine wpAny_genexprCodeX hcode (cd.code hPs htr) (cd.tab hPs) hf fun c' h3 tk hx hge hlt hco' _ htab' _ => ?_
    obtain ⟨o1, vs, f1, tf, fl, tg', inF, tx, tt', op, _, _, _, _, _, _, _, _, _, htr', _⟩ := hco'
    exact cont _ _ (tab_grows I2 hP (fun b o hb e => hx b o hb e) htab'.2 htr') fun b o hb e => hx b o hb e
  | some cv => exact wpAny_genexprCode_hit hcode (cd.code hPs htr) hf (cont cv s2 I2 fun _ _ _ e => e)
/-- all(e for t in i if ..) -/
theorem pe_allQ {elt tg iter : Expr} {ifs : List Expr} {scope : Scope} {own : List (Str × Nat)} {p pos gpos : Pos} {wi : TI} {gt : TG} {tt : TT} {te : TE} {k : Nat} {c P : Addr} (hr : Room (k + 1) X.A) (hgl : Gl X "all") (hm : X.mg "all" = none) (hb : bootBuiltins "all" = some (.builtin "all"))
    (TB : LamX.TabB X.base X.mg c P) (hcode : X.env.code = .ref c) (ok : GScp X.N X.env.scope scope own) (hN : X.N.Nodup) (hi : PI X tg iter wi)
    (hgt : ∀ (B : Around) (s : Shared) (H : Hp) (C : Addr) (cd : Value) (fp : List Addr) (pn : List (Addr × Obj)), Room k B → PG (gx X B s H (genEnv scope (cloFrom X.env.cells scope.names []) C cd builtinsNs X.env) fp pn) tg gt)
    (htt : ∀ (B : Around) (s : Shared) (H : Hp) (C : Addr) (cd : Value) (fp : List Addr) (pn : List (Addr × Obj)), Room k B → PTs (gx X B s H (genEnv scope (cloFrom X.env.cells scope.names []) C cd builtinsNs X.env) fp pn) ifs tt)
    (hte : ∀ (B : Around) (s : Shared) (H : Hp) (C : Addr) (cd : Value) (fp : List Addr) (pn : List (Addr × Obj)), Room k B → PE (gx X B s H (genEnv scope (cloFrom X.env.cells scope.names []) C cd builtinsNs X.env) fp pn) elt te)
    (hs : ∀ v, genFold iter X.env v = pure v := by intro _; rfl)
    (he : starEach [.GeneratorExp elt [⟨tg, iter, ifs, 0⟩] scope gpos] X.env = (false, eval (.GeneratorExp elt [⟨tg, iter, ifs, 0⟩] scope gpos) X.env) :: starEach [] X.env := by rfl) :
    PE X (.Call (.Name "all" p) [.GeneratorExp elt [⟨tg, iter, ifs, 0⟩] scope gpos] [] pos) (tQ P wi gt tt te (own.map (·.2)) false) := by
  refine ⟨fun pins s σ H Q I h => ?_⟩
  refine wpAny_Call_Name_kw (ld_blt I hgl hm hb ?_)
  refine PyProof.Rows.callWith_builtin1 ?_ he (by rfl)
  rw [he]
  show wpAny _ _ (spliced ((false, eval (.GeneratorExp elt [⟨tg, iter, ifs, 0⟩] scope gpos) X.env) :: backTo pos (starEach [] X.env))) _ _ s
  refine Calls.spliced_cons (gen_new (stop := false) hr TB hcode ok hN hi hgt htt hte hs I h fun a g n y hg hl hq => ?_)
  refine Calls.spliced_nil ?_
  exact call_all_gen hr.hd hr.depth hg hl hq fun b z ⟨H', J, q⟩ => ⟨.bl b, H', J, rfl, q⟩
/-- any(e for t in i if ..) -/
theorem pe_anyQ {elt tg iter : Expr} {ifs : List Expr} {scope : Scope} {own : List (Str × Nat)} {p pos gpos : Pos} {wi : TI} {gt : TG} {tt : TT} {te : TE} {k : Nat} {c P : Addr} (hr : Room (k + 1) X.A) (hgl : Gl X "any") (hm : X.mg "any" = none)
    (TB : LamX.TabB X.base X.mg c P) (hcode : X.env.code = .ref c) (ok : GScp X.N X.env.scope scope own) (hN : X.N.Nodup) (hi : PI X tg iter wi)
    (hgt : ∀ (B : Around) (s : Shared) (H : Hp) (C : Addr) (cd : Value) (fp : List Addr) (pn : List (Addr × Obj)), Room k B → PG (gx X B s H (genEnv scope (cloFrom X.env.cells scope.names []) C cd builtinsNs X.env) fp pn) tg gt)
    (htt : ∀ (B : Around) (s : Shared) (H : Hp) (C : Addr) (cd : Value) (fp : List Addr) (pn : List (Addr × Obj)), Room k B → PTs (gx X B s H (genEnv scope (cloFrom X.env.cells scope.names []) C cd builtinsNs X.env) fp pn) ifs tt)
    (hte : ∀ (B : Around) (s : Shared) (H : Hp) (C : Addr) (cd : Value) (fp : List Addr) (pn : List (Addr × Obj)), Room k B → PE (gx X B s H (genEnv scope (cloFrom X.env.cells scope.names []) C cd builtinsNs X.env) fp pn) elt te)
    (hs : ∀ v, genFold iter X.env v = pure v := by intro _; rfl)
    (he : starEach [.GeneratorExp elt [⟨tg, iter, ifs, 0⟩] scope gpos] X.env = (false, eval (.GeneratorExp elt [⟨tg, iter, ifs, 0⟩] scope gpos) X.env) :: starEach [] X.env := by rfl) :
    PE X (.Call (.Name "any" p) [.GeneratorExp elt [⟨tg, iter, ifs, 0⟩] scope gpos] [] pos) (tQ P wi gt tt te (own.map (·.2)) true) := by
  refine ⟨fun pins s σ H Q I h => ?_⟩
  refine wpAny_Call_Name_kw (ld_blt I hgl hm boot_any ?_)
  refine PyProof.Rows.callWith_builtin1 ?_ he (by rfl)
  rw [he]
  show wpAny _ _ (spliced ((false, eval (.GeneratorExp elt [⟨tg, iter, ifs, 0⟩] scope gpos) X.env) :: backTo pos (starEach [] X.env))) _ _ s
  refine Calls.spliced_cons (gen_new (stop := true) hr TB hcode ok hN hi hgt htt hte hs I h fun a g n y hg hl hq => ?_)
  refine Calls.spliced_nil ?_
  exact call_any_gen hr.hd hr.depth hg hl hq fun b z ⟨H', J, q⟩ => ⟨.bl b, H', J, rfl, q⟩
end
end L2.Gq
set_option maxHeartbeats 4000000
/-! enumerate(xs, start=k), xs a list. -/
namespace PySem
open Sem (wp)
open AutoSeq1 (wpAny_loadPart')
abbrev enOf (it : Addr) (k : Int) : Obj := { cls := .type "enumerate", data := .fields #[.none, .bool false, .ref it, rawInt k, .none, .none] }
theorem meets_enumFrom (l : Addr) (items : Array Value) (n : Nat) (dct : Option Addr) (sl : Array (Option Value)) (k : Int) (t : Tok) (hk : Builtin.SmallTypes.fitsIndex k = true) :
    Meets (Builtin.«enumerate.__new__» ⟨[.type "enumerate", .ref l], [("start", .int k t)]⟩) (fun _ R s => s.heap.get? l = some { cls := .type "list", dict := dct, data := .seq items n, slots := sl } ∧
      R (.ok (.ret (.ref (s.heap.push { cls := .type "list_iterator", data := .fields #[.ref l, .int 0 0] }).objs.size)))
        { s with heap := (s.heap.push { cls := .type "list_iterator", data := .fields #[.ref l, .int 0 0] }).push (enOf s.heap.objs.size k) }) :=
  .of_wp fun prog w A R s h => by
    obtain ⟨hp, g, d, tk, os⟩ := s; obtain ⟨hl, h⟩ := h
    have hsub := sub_enumerate
    have hL : Heap.IsList (Shared.heap ⟨hp, g, d, tk, os⟩) l items := ⟨_, hl, rfl, n, rfl⟩
    wp_walk using wpAny_loadPart' hl
    refine wpAny_stack_any fun st => wpAny_pure ?_
    have e1 : (!Builtin.SmallTypes.fitsIndex k) = false := by rw [hk]; rfl
    split
    · rename_i c _ _ _ _ _
      cases (c == Value.type "enumerate")
      · wp_walk using wpAny_loadPart' hl, wpAny_pyIter_list hL
        exact ⟨_, rfl, h⟩
      · wp_walk using wpAny_loadPart' hl, wpAny_pyIter_list hL
        exact ⟨_, rfl, h⟩
    · wp_walk using wpAny_loadPart' hl, wpAny_pyIter_list hL
      exact ⟨_, rfl, h⟩
theorem typeCall_enumFrom (a b : Value) : checkTypeCall "enumerate" ⟨[a], [("start", b)]⟩ = pure () := by kernel_rfl
theorem newCall_enumFrom (a b : Value) : checkBuiltinCall "enumerate.__new__" ⟨[.type "enumerate", a], [("start", b)]⟩ = pure () := by kernel_rfl
theorem args_initFrom (o a b : Value) : argsOk "object.__init__" ⟨[o, a], [("start", b)]⟩ := by
  unfold argsOk; rw [signature?_of (id := "object.__init__") (n := ['_', '_', 't', 'i', 'n', 'i', '_', '_']) (o := ['t', 'c', 'e', 'j', 'b', 'o']) (by kernel_rfl) F.owner_object]; kernel_rfl
theorem init_enumFrom {self a b : Value} :
    Meets (Builtin.«object.__init__» ⟨[self, a], [("start", b)]⟩) (fun _ R s => s.TypeIs self "enumerate" ∧ R (.ok (.ret .none)) s) := by
  refine Meets.of_wp fun prog w A R s hs => ?_
  obtain ⟨hT, hq⟩ := hs
  have hl := F.called_enumerate.init.lookup
  have hm := F.called_enumerate.made
  have hne : (some "enumerate.__new__" != some "object.__new__") = true := by decide
  repeat (any_goals (first | assumption | wp_step))
  exact ⟨_, rfl, hq⟩
section
variable {prog : Program} {w : World} {A : Around} {E : Value → Shared → Prop} {s : Shared}
theorem call_enumFrom {l : Addr} {items : Array Value} {k : Int} {t : Tok} {Q : Value → Shared → Prop} (hL : s.heap.IsList l items) (hk : Builtin.SmallTypes.fitsIndex k = true)
    (h : ∀ h', IsEnum h' (s.heap.objs.size + 1) s.heap.objs.size k .none → h'.IsListIter s.heap.objs.size l 0 → h'.objs.size = s.heap.objs.size + 2 →
      (∀ b o, s.heap.get? b = some o → h'.get? b = some o) → Q (.ref (s.heap.objs.size + 1)) { s with heap := h' }) :
    wpAny (model prog w) A (call (.type "enumerate") [.ref l] [("start", .int k t)]) Q E s := by
  obtain ⟨⟨c0, dct, dt, sl⟩, hl, hc, n, hd⟩ := hL
  have hc : c0 = .type "list" := hc
  have hd : dt = .seq items n := hd
  subst hc hd
  have ft := F.called_enumerate
  obtain ⟨c, tl, hmro⟩ := ft.mro
  have hmade := ft.made
  have hsub := ft.sub
  refine wpAny_call (codeAny_of_tree ?_)
  show wpAny _ _ (callAny (.type "enumerate") _) _ _ _
  refine wpAny_pure ⟨Code.quiet_builtin _ (by decide +kernel), codeAny_builtin F.entry_type_call ?_⟩
  rw [Around.under_plain (weight_type_call_type "enumerate" [.ref l] [("start", .int k t)]) (units_type_call_type "enumerate" [.ref l] [("start", .int k t)])]
  have h1 := ft.notType
  have h2 := ft.canCreate
  have hct := typeCall_enumFrom (.ref l) (.int k t)
  repeat (any_goals (first | assumption | wp_step))
  have hcn := newCall_enumFrom (.ref l) (.int k t)
  have hz : (s.heap.push { cls := .type "list_iterator", data := .fields #[.ref l, .int 0 0] }).objs.size = s.heap.objs.size + 1 := Heap.size_push ..
  have he : IsEnum ((s.heap.push { cls := .type "list_iterator", data := .fields #[.ref l, .int 0 0] }).push (enOf s.heap.objs.size k)) (s.heap.objs.size + 1) s.heap.objs.size k .none := by
    have q := Heap.get?_push_size (s.heap.push { cls := .type "list_iterator", data := .fields #[.ref l, .int 0 0] }) (o := enOf s.heap.objs.size k) rfl
    rw [hz] at q; exact q
  refine codeAny_mono (codeAny_call_builtin ft.plain F.entry_enumerate_new (wpAny_of_eq hcn (meets_enumFrom l items n dct sl k t hk prog w A.in1 (wants (fun obj s₁ => s₁.TypeIs obj "enumerate" ∧ Q obj s₁) E) s ⟨hl, ?_⟩))) fun r s₁ hr => ?_
  · show _ ∧ _
    rw [hz]
    exact ⟨⟨_, he, rfl⟩, h _ he ⟨_, Heap.get?_push_of_some _ (Heap.get?_push_size _ rfl), rfl, rfl⟩ (by rw [Heap.size_push, hz]) fun b o x => Heap.get?_push_of_some _ (Heap.get?_push_of_some _ x)⟩
  cases r with
  | error e => exact hr
  | ok fl =>
    cases fl with
    | ret obj =>
      obtain ⟨hT, hq⟩ := hr
      have hok := args_initFrom obj (.ref l) (.int k t)
      have hli := ft.init.lookup
      have hbi := ft.init.bind obj
      repeat (any_goals (first | assumption | wp_step))
      refine codeAny_mono (codeAny_call_builtin ft.init.plain F.entry_object_init (ft.init.check _ _ _ _ _ _ _ _ hT hok (init_enumFrom prog w A.in1 (wants (fun r s₂ => r = .none ∧ Q obj s₂) E) s₁ ⟨hT, rfl, hq⟩))) fun r₂ s₂ hr₂ => ?_
      cases r₂ with
      | error e => exact hr₂
      | ok fl₂ =>
        cases fl₂ with
        | ret r =>
          obtain ⟨rfl, hq⟩ := hr₂
          repeat (any_goals (first | assumption | wp_step))
        | _ => exact hr₂.elim
    | _ => exact hr.elim
end
end PySem
namespace L2.Enf
open PySem PySem.Spec PyProof.Rows
theorem callWith_typeKw {M : Model} {A : Around} {E : Value → Shared → Prop} {s : Shared} {env : Env} {pos : Pos} {T : String} {e : Expr} {rest : List Expr} {kws : List Keyword} {Q : Value → Shared → Prop}
    (h : wpAny M A (spliced (backTo pos (starEach (e :: rest) env))) (fun vs s₁ => wpAny M A (evalAll ((backToKw pos (keywordEach kws env)).map (·.2)))
      (fun kvs s₂ => wpAny M A (call (.type T) vs (((backToKw pos (keywordEach kws env)).filterMap (·.1)).zip kvs)) Q E s₂) E s₁) E s)
    (he : backTo pos (starEach (e :: rest) env) = (false, eval e env) :: backTo pos (starEach rest env) := by rfl)
    (hplain : (backTo pos (starEach (e :: rest) env)).any (·.1) = false := by rfl)
    (hall : (backToKw pos (keywordEach kws env)).all (·.1.isSome) = true := by rfl)
    (hkw : (backToKw pos (keywordEach kws env)).any (·.1.isNone) = false := by rfl) :
    wpAny M A (callWith pos (.type T) [] (backTo pos (starEach (e :: rest) env)) (backToKw pos (keywordEach kws env))) Q E s := by
  have core : wpAny M A (evalArgs (.type T) true (backTo pos (starEach (e :: rest) env)) (backToKw pos (keywordEach kws env))) (fun a s₁ => wpAny M A (call (.type T) ([] ++ a.pos) a.kw) Q E s₁) E s := by
    rw [he] at h ⊢
    exact evalArgs_kwB hall h
  unfold callWith
  refine wpAny_bind (wpAny_holding (wpAny_mono core (fun a s₁ h₁ => wpAny_bind (wpAny_standAt ?_)) fun _ _ x => x))
  simp only [hplain, hkw, Bool.or_false]
  refine wpAny_bind (wpAny_pure ?_)
  exact wpAny_bind (wpAny_mono h₁ (fun r s₂ hr => wpAny_bind (wpAny_holding (wpAny_point (wpAny_pure hr)))) fun _ _ x => x)
/-- the items from k on, each in a new pair -/
def Itf (K : PySem.W.Frag) (k : Nat) (a : Addr) : It :=
  ⟨fun i H => ∃ (xs : List V) (x : V), SqL K H a xs ∧ xs[i]? = some x, fun i H v H' => ∃ T x, v = .ref T ∧ H T = none ∧ H' = upd H T (.tup [.int ((k + i : Nat) : Int), x]) ∧ ∀ xs, SqL K H a xs → xs[i]? = some x, fun i H => ∃ xs : List V, SqL K H a xs ∧ xs.length ≤ i⟩
/-- a list's iterator, its turns counted from k on -/
theorem draws_from {prog : Program} {w : World} {A : Around} (hh : A.handled = none) (it l : Addr) (hne : l ≠ it) (items : Array Value) (k : Nat) :
    Draws prog w A it [it, l] (k + items.size) (fun j v => ∃ i, j = k + i ∧ items[i]? = some v) (fun j h => ∃ i, j = k + i ∧ h.IsListIter it l i ∧ h.IsList l items) where
  live := fun _ _ ⟨_, _, st, _⟩ => let ⟨o, ho, _⟩ := st; ⟨o, ho⟩
  frame := fun _ _ _ ⟨i, e, st, st2⟩ hk => ⟨i, e, st.at fun o e => hk it (by simp) o e, st2.at fun o e => hk l (by simp) o e⟩
  item := fun j s Q E hj ⟨i, e, st, st2⟩ hQ => by
    subst e
    have hi : i < items.size := by omega
    exact (Draws.list (prog := prog) (w := w) hh it l hne items).item i s Q E hi ⟨st, st2⟩ fun x h' tk hx ⟨s1, s2⟩ sb => hQ x h' tk ⟨i, rfl, hx⟩ ⟨i + 1, by omega, s1, s2⟩ sb
  done := fun s Q E ⟨i, e, st, st2⟩ hE => by
    have hi : i = items.size := by omega
    subst hi
    exact (Draws.list (prog := prog) (w := w) hh it l hne items).done s Q E ⟨st, st2⟩ hE
/-- such an iterator behind its end -/
theorem draws_over {prog : Program} {w : World} {A : Around} (hh : A.handled = none) (it l : Addr) (items : Array Value) (i k : Nat) (hx : items[i]? = none) :
    Draws prog w A it [it, l] (k + i) (fun _ _ => False) (fun j h => j = k + i ∧ h.IsListIter it l i ∧ h.IsList l items) where
  live := fun _ _ ⟨_, st, _⟩ => let ⟨o, ho, _⟩ := st; ⟨o, ho⟩
  frame := fun _ _ _ ⟨e, st, st2⟩ hk => ⟨e, st.at fun o e => hk it (by simp) o e, st2.at fun o e => hk l (by simp) o e⟩
  item := fun j s Q E hj ⟨e, _⟩ hQ => absurd hj (by omega)
  done := fun s Q E ⟨_, st, st2⟩ hE => wpAny_nextOf_list_end hh st st2 hx hE
theorem turn_from {P : Program} {w : World} {K : PySem.W.Frag} {elts : List Expr} {kk : Nat} {tpos : Pos} (k : Nat) (a e it : Addr) :
    Turn P w K (.Tuple elts kk tpos) (Itf K k a) [e, it] e (fun i h => (∃ old, IsEnum h e it ((k + i : Nat) : Int) old) ∧ h.IsListIter it a i ∧ e ≠ it) where
  mem := by simp
  obj := fun i h st b hb => by
    obtain ⟨⟨old, he⟩, ⟨o, ho, hc, hd⟩, _⟩ := st
    have e' : b = e ∨ b = it := by simpa using hb
    rcases e' with z | z
    · rw [z]; exact ⟨_, he, fun v q => nomatch q⟩
    · rw [z]; exact ⟨o, ho, fun v q => by rw [hd] at q; cases q⟩
  keep := fun i h h' st kp => let ⟨⟨old, he⟩, hi, hne⟩ := st; ⟨⟨old, kp e (by simp) _ he⟩, hi.at fun o q => kp it (by simp) o q, hne⟩
  item := by
    intro X hP hw hK hc i pins s σ H E I hf st hg
    subst hP hw hK
    obtain ⟨⟨old, he⟩, hit, hne⟩ := st
    obtain ⟨xs, x, hq, hx⟩ := hg
    obtain ⟨its, rv, p, hz⟩ := I.list hq
    obtain ⟨u, hu, ru⟩ := rv.get hx
    have hel : e < s.heap.objs.size := Heap.lt_size he
    have hil : it < s.heap.objs.size := by obtain ⟨_, q, _⟩ := hit; exact Heap.lt_size q
    have hai : a ≠ it := fun z => by
      obtain ⟨o1, e1, c1, d1⟩ := hit
      obtain ⟨o2, e2, c2, n2, d2⟩ := p.isList
      rw [z, e1] at e2
      cases e2
      rw [d1] at d2
      cases d2
    have hae : a ≠ e := fun z => by
      obtain ⟨o2, e2, c2, n2, d2⟩ := p.isList
      rw [z, he] at e2
      cases e2
      cases d2
    have hil2 : i < its.length := by
      have q := List.getElem?_eq_some_iff.mp hu
      exact q.1
    refine wpAny_pyNext_enum_itemD (draws_from (A := X.A.in1) (I.ok.hd hc) it a hai its.toArray k) (i := k + i) he ⟨i, rfl, hit, p.isList⟩ (by simp; exact hil2) hne (by simp; exact ⟨hne, Ne.symm hae⟩) fun x' h' tk hx' ho hst hT hsz hk => ?_
    obtain ⟨i', ei, hx'⟩ := hx'
    have ei : i' = i := by omega
    subst ei
    have exu : x' = u := by
      have q : its.toArray[i']? = some u := by simpa using hu
      rw [q] at hx'
      exact (Option.some.inj hx').symm
    subst exu
    obtain ⟨i2, ei2, hit', _⟩ := hst
    have ei2 : i2 = i' + 1 := by omega
    subst ei2
    refine ⟨_, rfl, wpAny_letOwnedTupleGo_enum (s := { s with heap := h', toks := tk + 1 }) ho fun h'' he' sb => ?_⟩
    have hT2 : h''.get? s.heap.objs.size = some { cls := .type "tuple", data := .seq #[.int ((k + i' : Nat) : Int) tk, x'] } := (sb.2 _ (Nat.ne_of_gt hel)).trans hT
    have new : ObjOk X.prog X.w (upd H s.heap.objs.size (.tup [.int ((k + i' : Nat) : Int), x])) h'' s.heap.objs.size (.tup [.int ((k + i' : Nat) : Int), x]) :=
      ⟨by show 2 ≤ sizeLine; decide, [.int ((k + i' : Nat) : Int) tk, x'], .cons ⟨_, rfl⟩ (.cons ru .nil), ⟨_, hT2, rfl, _, rfl⟩⟩
    have I1 : Inv X pins σ (upd H s.heap.objs.size (.tup [.int ((k + i' : Nat) : Int), x])) { s with heap := h'', toks := tk + 1 } :=
      I.turnedNew (ch := [e, it]) (fun b ob hb q => (sb.2 b (fun z => hb (by simp [z]))).trans (hk b ob (fun z => hb (by simp [z])) (fun z => hb (by simp [z])) q)) hf (Nat.le_refl _) new
    refine ⟨.ref s.heap.objs.size, _, I1, rfl, ⟨_, x, rfl, I.hok.fresh (Nat.le_refl _), rfl, fun ys hy => by rw [I.list_inj hy hq]; exact hx⟩, ⟨⟨x', ?_⟩, hit'.at fun o q => (sb.2 it (Ne.symm hne)).trans q, hne⟩, fun b hb => ?_⟩
    · have e1 : ((k + (i' + 1) : Nat) : Int) = ((k + i' : Nat) : Int) + 1 := by omega
      rw [e1]; exact he'
    · have hb' : b < s.heap.objs.size := by
        have e' : b = e ∨ b = it := by simpa using hb
        rcases e' with z | z
        · rw [z]; exact hel
        · rw [z]; exact hil
      rw [upd_ne (Nat.ne_of_lt hb')]
      exact (hf b hb).1
  done := by
    intro X hP hw hK hc i pins s σ H E I hf st hg
    subst hP hw hK
    obtain ⟨⟨old, he⟩, hit, hne⟩ := st
    obtain ⟨xs, hq, hx⟩ := hg
    obtain ⟨its, rv, p, hz⟩ := I.list hq
    obtain ⟨f0, f1, f2, f3, f4, f5⟩ := hf it (by simp)
    have hl := rv.length
    have hai : a ≠ it := fun z => by
      obtain ⟨o1, e1, c1, d1⟩ := hit
      obtain ⟨o2, e2, c2, n2, d2⟩ := p.isList
      rw [z, e1] at e2
      cases e2
      rw [d1] at d2
      cases d2
    have hx' : its.toArray[i]? = none := by
      have q : its[i]? = none := List.getElem?_eq_none_iff.mpr (by omega)
      simpa using q
    exact wpAny_pyNext_enum_endD (draws_over (A := X.A.in1) (I.ok.hd hc) it a its.toArray i k hx') he ⟨rfl, hit, p.isList⟩ fun h' eb => ⟨rfl, I.turned (t' := s.toks) (fun b o hb q => eb b o hb q) f0 f1 f3 f4 f5⟩
  self := fun A i s Q E st h => let ⟨⟨_, he⟩, _⟩ := st; wpAny_pyIter_enum he h
def iFrom (K : PySem.W.Frag) (k : Nat) (ta : TA) : TI := fun σ H R => ta σ H fun vs H1 => ∃ a xs, vs = [.ref a] ∧ SqL K H1 a xs ∧ R (Itf K k a) H1
theorem pi_from {X : Cx} {e : Expr} {ta : TA} {p pos tpos kp cp : Pos} {elts : List Expr} {kk j k : Nat} (hg : Gl X "enumerate") (hm : X.mg "enumerate" = none) (ha : PA X [e] ta) (hk : Builtin.SmallTypes.fitsIndex ((k : Nat) : Int) = true) (hs : starEach [e] X.env = [(false, eval e X.env)] := by rfl) :
    PI X (.Tuple elts kk tpos) (.Call (.Name "enumerate" p) [e] [⟨some "start", .Constant (.int ((k : Nat) : Int)) j cp, kp⟩] pos) (iFrom X.K k ta) := by
  refine ⟨fun pins s σ H R I h => ?_⟩
  refine wpAny_Call_Name_kw (ld_blt I hg hm boot_enumerate ?_)
  refine callWith_typeKw (kws := [⟨some "start", .Constant (.int ((k : Nat) : Int)) j cp, kp⟩]) (thn (ha.run pos pins s σ H _ I h) fun us s1 ⟨vs, H1, I1, r1, q1⟩ => ?_) (by rw [hs]; rfl) (by rw [hs]; rfl)
  obtain ⟨a, xs, ex, hq, q⟩ := q1
  subst ex
  cases r1 with
  | cons r rr =>
    cases rr
    cases r
    refine kws_cons ?_
    refine thn ((pe_int (X := X) (i := ((k : Nat) : Int)) (j := j) (pos := cp)).run pins s1 σ H1 (fun v H' => v = .int ((k : Nat) : Int) ∧ H' = H1) I1 ⟨rfl, rfl⟩) fun kv s2 ⟨v, H', I2, r2, ev, eH⟩ => ?_
    subst ev eH
    obtain ⟨t, rfl⟩ := r2
    refine kws_nil ?_
    obtain ⟨its, rv, p', hz⟩ := I2.list hq
    refine call_enumFrom p'.isList hk fun h' he hit hsz hk' => wpAny_pyIter_enum he ?_
    have I3 : Inv X pins σ H' { s2 with heap := h' } := I2.kept (t' := s2.toks) hk'
    refine ⟨s2.heap.objs.size + 1, [s2.heap.objs.size + 1, s2.heap.objs.size], _, _, H', rfl, I3, turn_from k a (s2.heap.objs.size + 1) s2.heap.objs.size, ⟨⟨.none, he⟩, hit, Nat.succ_ne_self _⟩, fun b hb => ?_, q⟩
    have hb' : b = s2.heap.objs.size + 1 ∨ b = s2.heap.objs.size := by simpa using hb
    have hle : s2.heap.objs.size ≤ b := by
      rcases hb' with z | z
      · rw [z]; exact Nat.le_succ _
      · rw [z]; exact Nat.le_refl _
    exact I2.fpOk hle (I2.hok.fresh hle)
end L2.Enf
set_option maxHeartbeats 4000000
/-! set(xs), xs a list of any few texts; how many they are. -/
namespace L2.Sett
open PySem PySem.Spec PyProof.Rows
/-- the texts met in the first i, each once: how many -/
def met (xs : List Str) : Nat → Nat
  | 0 => 0
  | i + 1 => if (xs.take i).any (· == xs.getD i Str.empty) = true then met xs i else met xs i + 1
theorem met_step (xs : List Str) (i : Nat) : met xs (i + 1) = if (xs.take i).any (· == xs.getD i Str.empty) = true then met xs i else met xs i + 1 := rfl
theorem met_le (xs : List Str) : ∀ i, met xs i ≤ i
  | 0 => Nat.le_refl _
  | i + 1 => by
    have q := met_le xs i
    unfold met
    split <;> omega
theorem take_succ_getD {xs : List Str} {i : Nat} (h : i < xs.length) : xs.take (i + 1) = xs.take i ++ [xs.getD i Str.empty] := by
  rw [List.take_add_one, List.getElem?_eq_getElem h]
  have e : xs.getD i Str.empty = xs[i] := by rw [List.getD_eq_getElem?_getD, List.getElem?_eq_getElem h]; rfl
  rw [e]; rfl
theorem met_nodup (xs : List Str) (h : xs.Nodup) : ∀ i, i ≤ xs.length → met xs i = i
  | 0, _ => rfl
  | i + 1, hi => by
    have hl : i < xs.length := hi
    have q := met_nodup xs h i (Nat.le_of_lt hl)
    have hn : (xs.take i).any (· == xs.getD i Str.empty) = false := by
      rw [List.any_eq_false]
      intro y hy e
      have e2 : xs.getD i Str.empty = xs[i] := by rw [List.getD_eq_getElem?_getD, List.getElem?_eq_getElem hl]; rfl
      have e1 : y = xs[i] := by rw [← e2]; exact eq_of_beq e
      obtain ⟨j, hj, ej⟩ := List.getElem_of_mem hy
      have hj2 : j < i := by
        have := hj
        rw [List.length_take] at this
        omega
      rw [List.getElem_take] at ej
      have := (List.getElem_inj (h₀ := (by omega : j < xs.length)) (h₁ := hl) h).mp (ej.trans e1)
      omega
    unfold met
    rw [hn, q]
    simp
section
variable {prog : Program} {w : World} {A : Around} {R : Result → Shared → Prop} {I : Addr} {fp wr : List Addr} {G : Array GenState → Array GenState → Prop} {P : Nat → Value → Prop} {St : Nat → Shared → Prop}
theorem set_turns (xs : List Str) (W : WalksS prog w A.in1 I fp wr G xs.length P St) (S : Addr) (hSf : S ∉ fp) (room : xs.length + 1 < scanBound) (hval : ∀ i v, P i v → ∃ t, v = .str (xs.getD i Str.empty) t) :
    ∀ (k i : Nat) (z : Shared), xs.length - i = k → i ≤ xs.length → St i z → z.heap.SetOf (PySem.strKind prog w) S (fun y => (xs.take i).any (· == y)) (met xs i) →
      (∀ y, Moved (S :: wr) G z y → y.heap.SetOf (PySem.strKind prog w) S (fun y => xs.any (· == y)) (met xs xs.length) → R (.ok (.ret .none)) y) →
      codeAny (model prog w) A (.builtin "set.update.loop" ⟨[.ref S, .ref I], []⟩) R z := by
  have hSw : S ∉ wr := fun h => hSf (W.sub _ h)
  have up : ∀ b ∈ wr, b ∈ S :: wr := fun b hb => List.mem_cons_of_mem _ hb
  intro k
  induction k with
  | zero =>
    intro i z hk hi st hS hR
    obtain rfl : i = xs.length := by omega
    refine codeAny_builtin PyProof.Rows.F.entry_set_update_loop ?_
    rw [Around.under_plainId PyProof.Rows.F.plain_set_update_loop _]
    show wpAny _ A.in1 (pyNext (.ref I) >>= _) _ _ z
    refine wpAny_bind (W.done z _ _ st fun y hm => ?_)
    show wpAny _ A.in1 (ret Value.none) _ _ y
    refine wpAny_pure (hR y (hm.mono up) ?_)
    obtain ⟨o, es, ep, t, ho, more⟩ := hS
    rw [List.take_length] at more
    exact ⟨o, es, ep, t, hm.heap S _ hSw ho, more⟩
  | succ k ih =>
    intro i z hk hi st hS hR
    have hlt : i < xs.length := by omega
    refine codeAny_builtin PyProof.Rows.F.entry_set_update_loop ?_
    rw [Around.under_plainId PyProof.Rows.F.plain_set_update_loop _]
    show wpAny _ A.in1 (pyNext (.ref I) >>= _) _ _ z
    refine wpAny_bind (W.item i z _ _ hlt st fun v y hP st' hm => ?_)
    obtain ⟨t, rfl⟩ := hval i v hP
    have hS' : y.heap.SetOf (PySem.strKind prog w) S (fun y => (xs.take i).any (· == y)) (met xs i) := by
      obtain ⟨o, es, ep, tb, ho, more⟩ := hS
      exact ⟨o, es, ep, tb, hm.heap S _ hSw ho, more⟩
    show wpAny _ A.in1 (holding [Value.str (xs.getD i Str.empty) t] (setAdd S (.str (xs.getD i Str.empty) t)) >>= _) _ _ y
    refine wpAny_bind (wpAny_holding ?_)
    unfold setAdd
    refine wpAny_holding (wpAny_bind ((PySem.strKind prog w).pyHash (k := xs.getD i Str.empty) (strKind_is _ _ _ _) ?_))
    refine wpAny_setAddHashed_of (knd := PySem.strKind prog w) (s := { y with toks := y.toks + 1 }) (strKind_is _ _ _ _) rfl hS' (by have := met_le xs i; omega) fun h' hsb hS2 => ?_
    have hSi : h'.SetOf (PySem.strKind prog w) S (fun y => (xs.take (i + 1)).any (· == y)) (met xs (i + 1)) := by
      refine PyProof.Rows.SetOf_congr hS2 (fun k' => ?_) (met_step xs i).symm
      rw [take_succ_getD hlt, List.any_append]
      by_cases e : k' = xs.getD i Str.empty
      · subst e; simp
      · have hb : (xs.getD i Str.empty == k') = false := by
          rw [beq_eq_false_iff_ne]; exact fun q => e q.symm
        rw [List.any_cons, List.any_nil, Bool.or_false, hb, decide_eq_false e]
    refine wpAny_pure ⟨plainId_quiet PyProof.Rows.F.plain_set_update_loop _, ih (i + 1) _ (by omega) hlt (W.frame _ y _ _ st' (Nat.le_succ _) fun b hb o e => ?_) hSi fun y2 hm2 hS3 => ?_⟩
    · rw [hsb.2 b (fun q : b = S => hSf (by rw [← q]; exact hb))]; exact e
    · refine hR y2 (Moved.trans W.gtrans ((hm.mono up).then_heap (Nat.le_succ _) fun b o hb e => ?_) hm2) hS3
      rw [hsb.2 b (fun q : b = S => hb (by rw [q]; exact List.mem_cons_self))]; exact e
theorem call_set_texts {E : Value → Shared → Prop} {s : Shared} {l : Addr} {items : Array Value} {xs : List Str} {Q : Value → Shared → Prop} (hh : A.handled = none) (hl : s.heap.IsList l items) (hi : PyProof.Rows.StrsAre items.toList xs) (room : xs.length + 1 < scanBound)
    (h : ∀ (h' : Heap) (tk : Nat), h'.SetOf (PySem.strKind prog w) s.heap.objs.size (fun y => xs.any (· == y)) (met xs xs.length) → (∀ b o, b < s.heap.objs.size → s.heap.get? b = some o → h'.get? b = some o) → Q (.ref s.heap.objs.size) { s with heap := h', toks := tk }) :
    wpAny (model prog w) A (call (.type "set") [.ref l]) Q E s := by
  have ft := PySem.F.called_set
  obtain ⟨c, tl, hmro⟩ := ft.mro
  have hmade := ft.made
  have hsub := ft.sub
  have hct := PySem.F.typeCall_set_1 (.ref l)
  have h1 := ft.notType
  have h2 := ft.canCreate
  refine wpAny_call (codeAny_of_tree ?_)
  show wpAny _ _ (callAny (.type "set") _) _ _ _
  refine wpAny_pure ⟨Code.quiet_builtin _ (by decide +kernel), codeAny_builtin PySem.F.entry_type_call ?_⟩
  rw [Around.under_plain (weight_type_call_type "set" [.ref l] []) rfl]
  repeat (any_goals (first | assumption | wp_step))
  generalize hN : s.heap.objs.size = N at h ⊢
  refine codeAny_mono (code_set_new_1 (.ref l) (E := E) (Q₁ := fun obj s₁ => ∃ led : Bool, obj = .ref N ∧ s₁ = { s with heap := s.heap.push { cls := .type "set", dict := none, data := .set #[] 0 (.fresh 0 0 led) } }) fun led => ⟨led, by rw [hN], rfl⟩) fun r s₁ hr => ?_
  cases r with
  | error e => exact hr
  | ok fl =>
    cases fl with
    | ret obj =>
      obtain ⟨led, rfl, rfl⟩ := hr
      generalize hob : ({ cls := .type "set", dict := none, data := .set #[] 0 (.fresh 0 0 led) } : Obj) = ob
      have hS : (s.heap.push ob).get? N = some ob := by
        rw [← hN, ← hob]; exact Heap.get?_push_size _ rfl
      have hsz1 : (s.heap.push ob).objs.size = N + 1 := by rw [Heap.size_push, hN]
      have hT : Shared.TypeIs { s with heap := s.heap.push ob } (.ref N) "set" := ⟨_, hS, by rw [← hob]⟩
      have hli := ft.init.lookup
      have hbi := ft.init.bind (.ref N)
      repeat (any_goals (first | assumption | wp_step))
      refine codeAny_mono (codeAny_call_builtin (R := wants (fun r y => r = .none ∧ ∃ h' tk, y = { s with heap := h', toks := tk } ∧ h'.SetOf (PySem.strKind prog w) N (fun y => xs.any (· == y)) (met xs xs.length) ∧ ∀ b o, b < N → s.heap.get? b = some o → h'.get? b = some o) E)
        ft.init.plain PySem.F.entry_set_init (check_set_init_1 hT ?_)) fun r₂ y hr₂ => ?_
      · obtain ⟨⟨oc, od, odt, osl⟩, hol, hc, nl, hd⟩ := hl
        have hc : oc = .type "list" := hc
        have hd : odt = .seq items nl := hd
        subst hc hd
        have hol' : (s.heap.push ob).get? l = some { cls := .type "list", dict := od, data := .seq items nl, slots := osl } := Heap.get?_push_of_some _ hol
        have hsls := PySem.F.sub_list_set
        have hslf := PySem.F.sub_list_frozenset
        have hne : (Value.type "list" == Value.type "dict") = false := by decide
        have hl1 : (s.heap.push ob).IsList l items := ⟨_, hol', rfl, nl, rfl⟩
        have hlN : l < N := by rw [← hN]; exact Heap.lt_size hol
        have hsz : xs.length = items.size := by rw [← StrsAre.len_eq hi, Array.length_toList]
        have hneI : l ≠ (s.heap.push ob).objs.size := by rw [hsz1]; exact Nat.ne_of_lt (Nat.lt_succ_of_lt hlN)
        have hSf : N ∉ [(s.heap.push ob).objs.size, l] := by
          rw [hsz1]
          intro q
          rcases List.mem_cons.mp q with q | q
          · exact Nat.ne_of_lt (Nat.lt_succ_self N) q
          · exact Nat.ne_of_gt hlN (List.mem_singleton.mp q)
        have W0 := (Walks.list (prog := prog) (w := w) (A := A.in1.in1.in1) (by simp [hh]) (s.heap.push ob).objs.size l hneI items).toS
        rw [← hsz] at W0
        subst hob
        unfold Builtin.«set.__init__» noKeywords Builtin.Frozenset.updateFrom
        generalize hPI : pyIter = PI
        wp_walk
        subst hPI
        refine wpAny_pyIter_list hl1 ?_
        refine wpAny_bind (wpAny_runValue ?_)
        refine set_turns xs W0 N hSf room (fun i v hv => SS.strs_at hi i v (by rw [Array.getElem?_toList]; exact hv)) xs.length 0 _ (by omega) (Nat.zero_le _) ⟨⟨_, Heap.get?_push_size _ rfl, rfl, rfl⟩, hl1.push _⟩ ?_ fun y hm hS' => ?_
        · exact PyProof.Rows.SetOf_congr ((PyProof.Rows.setObjOf_fresh (knd := PySem.strKind prog w) led).setOf (Heap.get?_push_of_some _ hS) (by unfold scanBound; omega)) (fun _ => rfl) rfl
        · obtain ⟨h', g', d', tk', os'⟩ := y
          have eg : g' = s.gens := hm.gens
          have ed : d' = s.drawn := hm.drawn
          have eo : os' = s.os := hm.os
          subst eg ed eo
          refine wpAny_pure ?_
          show wpAny _ _ (ret Value.none) _ _ _
          refine wpAny_pure ⟨rfl, h', tk', rfl, hS', fun b o hb e => hm.heap b o (fun q => ?_) (Heap.get?_push_of_some _ (Heap.get?_push_of_some _ e))⟩
          rcases List.mem_cons.mp q with q | q
          · exact Nat.ne_of_lt hb q
          · rw [hsz1] at q
            exact Nat.ne_of_lt (Nat.lt_succ_of_lt hb) (List.mem_singleton.mp q)
      · cases r₂ with
        | error e => exact hr₂
        | ok fl₂ =>
          cases fl₂ with
          | ret r =>
            obtain ⟨rfl, h', tk, rfl, hS', hk'⟩ := hr₂
            repeat (any_goals (first | assumption | wp_step))
            exact h _ _ hS' hk'
          | _ => exact hr₂.elim
    | _ => exact hr.elim
end
/-- len(set(e)), e a list of texts -/
def tLenSetT (K : PySem.W.Frag) (ta : TE) : TE := fun σ H Q => ta σ H fun x H1 => ∃ (l : Addr) (xs : List Str), x = .ref l ∧ SqL K H1 l (xs.map V.str) ∧ xs.length + 1 < scanBound ∧ Q (.int (met xs xs.length : Nat)) H1
theorem pe_lenSetT {X : Cx} {a : Expr} {ta : TE} {p p2 q pos : Pos} (hc : X.calm = true) (hg : Gl X "len") (hm : X.mg "len" = none) (hg2 : Gl X "set") (hm2 : X.mg "set" = none) (ha : PE X a ta) (na : starEach [a] X.env = (false, eval a X.env) :: starEach [] X.env := by rfl) :
    PE X (.Call (.Name "len" p) [.Call (.Name "set" p2) [a] [] q] [] pos) (tLenSetT X.K ta) := by
  refine ⟨fun pins s σ H Q I h => ?_⟩
  refine Call_ (ld_blt I hg hm boot_len (PyProof.Rows.callWith_builtin1 (PyProof.Rows.args_cons ?_ rfl) rfl rfl))
  refine Call_ (ld_blt I hg2 hm2 boot_set (PyProof.Rows.callWith_type1 (PyProof.Rows.args_cons (thn (ha.run pins s σ H _ I h) fun v s1 ⟨x, H1, J, r1, q1⟩ => PyProof.Rows.args_nil ?_) na) na rfl))
  obtain ⟨l, xs, rfl, hq, room, q1⟩ := q1
  cases r1
  obtain ⟨its, r, pl, hz⟩ := J.list hq
  refine call_set_texts (J.ok.hd hc) pl.isList (by simpa using strsAre_of r) room fun h' tk hS hk => PyProof.Rows.args_nil ?_
  obtain ⟨o, es, ep, t, ho, hex, hd, _, _, _, hf, hn⟩ := hS
  have J2 : Inv X pins σ H1 { s1 with heap := h', toks := tk } := J.kept fun b o e => hk b o (Heap.lt_size e) e
  have q2 := met_le xs xs.length
  refine call_len_set ho hex hd hf (by rw [hn]; have q3 : scanBound = 4096 := rfl; omega) ⟨.int (met xs xs.length : Nat), H1, J2.tok _, ⟨_, by rw [hn]⟩, q1⟩
end L2.Sett
set_option maxHeartbeats 4000000
/-! x in o, x not in o, o an instance of a class with an own __contains__ that gives a bool. -/
namespace L2.Own
open PySem PySem.Spec PyProof.Rows
structure InC (K : PySem.W.Frag) (C f : Addr) : Prop where
  at_ : PySem.W.findIn K (.ref C) "__contains__" = some (some (.ref f))
  fn : PySem.W.isFn K (.ref f) = true
section
variable {X : Cx} {k : Nat} {C f : Addr} {fd : FuncData} {ps : List Str} {sp : Sp} {CX : CXT} {E : XK}
theorem contains_own {pins : List (Addr × Obj)} {s : Shared} {σ : L2.St} {H : Hp} {x : V} {a dx : Addr} {fs : List (Str × V)} {v : Value} {Q : Bool → Hp → Prop} {Q' : Bool → Shared → Prop} (c : InC X.K C f) (F : FnOk X.prog X.w X.K X.mg X.base CX k f fd ps sp) (hr : Room k X.A) (hb : Binds X.K fd ps []) (hx : Passes CX X E)
    (I : Inv X pins σ H s) (rx : RelV x v) (ha : H a = some (.ins C dx fs)) (hsp : sp [.ref a, x] H (fun y H' => ∃ b, y = .bl b ∧ Q b H') E) (hQ : ∀ b H' s', Inv X pins σ H' s' → Q b H' → Q' b s') :
    wpAny (model X.prog X.w) X.A (contains (.ref a) v) Q' X.xe s := by
  obtain ⟨mA, J, _⟩ := ins_get I.hok ha
  obtain ⟨od, J, _⟩ := J.look
  have kin := I.kIn
  unfold contains
  refine wpAny_holding ?_
  rw [stdlibNamesSay?_ref]
  refine wpAny_bind (wpAny_bind (J.type.here ((PySem.W.looks_findIn kin c.at_).here ?_)))
  refine wpAny_ite_split (fun z => absurd z Bool.false_ne_true) (fun _ => ?_)
  have fin : wpAny (model X.prog X.w) X.A (call (.ref f) [.ref a, v]) (fun r s' => ∃ b H', r = .bool b ∧ Inv X pins σ H' s' ∧ Q b H') X.xe s := by
    have hl := F.len _ _ _ _ hsp
    have r2 : Vals [V.ref a, x] [Value.ref a, v] := .cons rfl (.cons rx .nil)
    refine wpAny_call (codeAny_mono (F.run X.A X.stack s H ⟨[.ref a, v], []⟩ [.ref a, v] [.ref a, x] _ E hr I.env0 (by
      have := hb s [.ref a, v] I.kIn (by simpa using hl)
      simpa using this) r2 hsp) fun r s' hq => ?_)
    cases r with
    | error e => exact hx pins σ H s e s' I hq
    | ok fl =>
      cases fl with
      | ret u =>
        obtain ⟨y, H', I', ry, b, rfl, q⟩ := I.after hq
        cases ry
        exact ⟨b, H', rfl, I', q⟩
      | next => exact False.elim hq
      | brk => exact False.elim hq
      | cont => exact False.elim hq
  simp only [callSpecialUnlessNone?]
  refine wpAny_bind (wpAny_bind (wpAny_bind (J.type.here ((PySem.W.looks_findIn kin c.at_).here ?_))))
  refine wpAny_holding (wpAny_bind ((PySem.W.bind_fn kin _ (beq_iff_eq.mp c.fn)).here ?_))
  refine wpAny_ite_split (fun z => absurd z Bool.false_ne_true) (fun _ => ?_)
  refine wpAny_bind (wpAny_mono fin (fun r s' hr' => ?_) fun _ _ z => z)
  obtain ⟨b, H', rfl, I', q⟩ := hr'
  exact wpAny_pure (wpAny_truthy_bool (hQ b H' s' I' q))
/-- x in o -/
def rInOwn (C : Addr) (sp : Sp) (E : XK) (neg : Bool) : R2 := fun x y H Q => ∃ a dx fs, y = .ref a ∧ H a = some (.ins C dx fs) ∧ sp [.ref a, x] H (fun z H' => ∃ b : Bool, z = .bl b ∧ Q (.bl (if neg then !b else b)) H') E
theorem op_inOwn (c : InC X.K C f) (F : FnOk X.prog X.w X.K X.mg X.base CX k f fd ps sp) (hr : Room k X.A) (hb : Binds X.K fd ps []) (hx : Passes CX X E) : OpR X (compareOp .In) (rInOwn C sp E false) := by
  intro pins s σ H x y v u Q I rx ry ⟨a, dx, fs, ey, ha, hsp⟩
  subst ey
  cases ry
  show wpAny _ _ (contains (.ref a) v >>= fun b => pure (Value.bool b)) _ _ _
  exact wpAny_bind (contains_own c F hr hb hx I rx ha hsp fun b H' s' I' q => wpAny_pure ⟨.bl b, H', I', rfl, q⟩)
theorem op_notInOwn (c : InC X.K C f) (F : FnOk X.prog X.w X.K X.mg X.base CX k f fd ps sp) (hr : Room k X.A) (hb : Binds X.K fd ps []) (hx : Passes CX X E) : OpR X (compareOp .NotIn) (rInOwn C sp E true) := by
  intro pins s σ H x y v u Q I rx ry ⟨a, dx, fs, ey, ha, hsp⟩
  subst ey
  cases ry
  show wpAny _ _ (contains (.ref a) v >>= fun b => pure (Value.bool (!b))) _ _ _
  exact wpAny_bind (contains_own c F hr hb hx I rx ha hsp fun b H' s' I' q => wpAny_pure ⟨.bl (!b), H', I', rfl, q⟩)
end
end L2.Own
set_option maxHeartbeats 4000000
/-! A dict that is never changed again (frozen); iter(d); walking an instance whose own __iter__ hands out iter(d). -/
namespace L2.Itr
open PySem PySem.Spec PyProof.Rows ItX
section
variable {X : Cx} {pins : List (Addr × Obj)} {σ : L2.St} {H : Hp} {s : Shared}
/-- from here on the dict is only read -/
def tFrz (t : TE) : TE := fun σ H Q => t σ H fun v H1 => ∃ d u, v = .ref d ∧ H1 d = some u ∧ Mut (some u) ∧ ∀ o, Q v (L2.upd H1 d (.frz o u))
theorem pe_frz {e : Expr} {t : TE} (h : PE X e t) : PE X e (tFrz t) := by
  refine ⟨fun pins s σ H Q I hq => thn (h.run pins s σ H _ I hq) fun v s1 ⟨x, H1, J, r, d, u, ex, hd, mu, q⟩ => ?_⟩
  obtain ⟨o, J2⟩ := J.lock hd mu
  exact ⟨x, _, J2, r, q o⟩
/-- the iterator over the keys of the dict at d -/
def ItK (it d : Addr) (n ep : Nat) : HO := .ext fun h => h.IsKeyIter it d 0 n ep
theorem itK_ok {P : Program} {w : World} {h : Heap} {it d : Addr} {n ep : Nat} (z : h.IsKeyIter it d 0 n ep) : ObjOk P w H h it (ItK it d n ep) :=
  ⟨z, let ⟨o, e, _⟩ := z; ⟨o, e⟩, fun _ _ z1 k => z1.at k⟩
/-- iter(d), d frozen -/
def rIterK (n : Nat) : List V → Hp → VK → Prop := fun xs H Q => ∃ (d : Addr) (o : Obj) (kvs : List (Key × V)), xs = [.ref d] ∧ H d = some (.frz o (.dK kvs)) ∧ ∀ it es ep, o.data = .dict es ep → H it = none → n ≤ it → Q (.ref it) (L2.upd H it (ItK it d kvs.length ep))
theorem call_iterK : CallR X (.builtin "iter") (rIterK X.s_0.heap.objs.size) := by
  intro pins s σ H xs us Q I r h
  obtain ⟨d, o, kvs, rfl, hd, q⟩ := h
  obtain ⟨u, rfl, ru⟩ := vals1 r
  cases ru
  obtain ⟨hs, hgd, hx, es, ep, vs, hdt, hsz, kv, hm⟩ := I.frzK hd
  refine Calls.call_function_entry (by decide +kernel) (by decide +kernel) PySem.W.kdk_entry_iter (PySem.W.kdk_args_iter _) ?_
  unfold Builtin.«iter»
  refine wpAny_bind (m := someArgs "iter" 1 2 _) (wpAny_of_eq (a := [Value.ref d]) (by first | rfl | kernel_rfl!) ?_)
  show wpAny _ _ (pyIter (.ref d) >>= _) _ _ _
  refine wpAny_bind (iter_keys hs hgd hx hdt ?_)
  refine wpAny_pure ⟨_, rfl, .ref s.heap.objs.size, _, I.laid (t' := s.toks) (fun b u e => Heap.get?_push_of_some _ e) (Nat.le_refl _) (itK_ok (n := kvs.length) (ep := ep) (d := d) ⟨_, Heap.get?_push_size _ rfl, rfl, ?_⟩), rfl, q _ es ep hdt (I.hok.fresh (Nat.le_refl _)) I.sz⟩
  rw [hsz] <;> rfl
end
/-- one call of a def, its start known -/
theorem Fun.once {P : Program} {w : World} {K : PySem.W.Frag} {mg : Str → Option Value} {base : Heap} {x qual : Str} {st : Stmt} {f : Addr} {fd : FuncData} {N ps : List Str} {k : Nat} (F : Fun K x qual st f fd) (S : FnScope N ps (defScope st))
    {A : Around} {outer : List Env} {s : Shared} {H : Hp} {args : Args} {us : List Value} {vs : List V} {Q : VK} {E : XK} (hr : Room (k + 1) A) (e0 : Env0 P w K mg base A outer s H) (hb : BindsTo s fd args (ps.zip us)) (r : Vals vs us) (hl : vs.length = ps.length)
    (hbody : ∀ cdv, Room k (A.deeper (envOfC qual (defScope st) s.heap.objs.size f cdv)) → ∃ t, PSs (cxOf CX0 P w K mg base N qual (defScope st) f cdv A outer s H E).nox (defBody st) t ∧ t { nx := fun _ H' => Q .non H', rt := Q } (start N vs) H) :
    codeAny (model P w) A (.call (.ref f) args) (CR CX0 outer P w H s Q E) s := by
  obtain ⟨oc, od, kV, doc, pm, an, cdv, ct, osl, rfl, lk, hcd⟩ := F.ex
  obtain ⟨t, ht, hq⟩ := hbody cdv (hr.deeper _)
  have ht := ht.nox
  have kin : K.In s.heap := e0.mod.kin.keeps fun b o e => (e0.bs b o e).1
  refine codeAny_call_function hr.depth (kin _ _ lk) rfl S.co S.gen rfl (PySem.W.codeRec_of kin hcd) (hb _ _ _ _ (wpAny_newFunctionEnv_cells S.kind (fun y hy => ?_) fun env he s1 z => ?_))
  · rcases S.par y.1 (List.of_mem_zip hy).1 with q | q
    · exact .inl q
    · exact .inr ⟨q, PySem.W.cellsFrom_some _ _ _ (.inl q)⟩
  · subst he
    have lim : s.heap.NoLimit := e0.mod.nolimit.keeps fun b o e => (e0.bs b o e).1
    refine ⟨lim.keeps z.toInCall.keep, codeAny_func (wpAny_mono (ht.run [] s1 (start N vs) H _ (inv_start S hr.hd e0 hl r z) hq) (fun fl s' hs => ?_) fun e s' hs => hs)⟩
    cases fl with
    | ret u => exact let ⟨v, _, H', J, rv, q⟩ := hs; ⟨v, H', J.os, J.bare, J.base, J.hok, rv, q⟩
    | next => exact let ⟨_, H', J, q⟩ := hs; ⟨.non, H', J.os, J.bare, J.base, J.hok, rfl, q⟩
    | brk => exact let ⟨_, _, _, q⟩ := hs; False.elim q
    | cont => exact let ⟨_, _, _, q⟩ := hs; False.elim q
/-- what an own __iter__ that hands out the keys of its field f gives -/
structure KeysOk (P : Program) (w : World) (K : PySem.W.Frag) (mg : Str → Option Value) (base : Heap) (k : Nat) (fi : Addr) (fd : FuncData) (C : Addr) (f : Str) : Prop where
  run : ∀ (A : Around) (outer : List Env) (s : Shared) (H : Hp) (a dx d : Addr) (fs : List (Str × V)) (o : Obj) (kvs : List (Key × V)), Room k A → Env0 P w K mg base A outer s H → BindsTo s fd ⟨[.ref a], []⟩ [("self", .ref a)] →
    H a = some (.ins C dx fs) → fs.lookup f = some (.ref d) → H d = some (.frz o (.dK kvs)) →
    codeAny (model P w) A (.call (.ref fi) ⟨[.ref a], []⟩) (CR CX0 outer P w H s (fun v H' => ∃ it es ep, v = .ref it ∧ o.data = .dict es ep ∧ s.heap.objs.size ≤ it ∧ H it = none ∧ H' = L2.upd H it (ItK it d kvs.length ep)) fun _ _ _ => False) s
theorem keys_ok {P : Program} {w : World} {K : PySem.W.Frag} {mg : Str → Option Value} {base : Heap} {qual f : Str} {st : Stmt} {fi C : Addr} {fd : FuncData} {N : List Str} {k : Nat} (F : Fun K "__iter__" qual st fi fd) (S : FnScope N ["self"] (defScope st))
    (hb : ∀ (cdv : Value) (A : Around) (outer : List Env) (s : Shared) (H : Hp) (E : XK), Room k (A.deeper (envOfC qual (defScope st) s.heap.objs.size fi cdv)) →
      ∃ t, PSs (cxOf CX0 P w K mg base N qual (defScope st) fi cdv A outer s H E).nox (defBody st) t ∧ ∀ (a dx d : Addr) (fs : List (Str × V)) (o : Obj) (kvs : List (Key × V)) (Q : VK), H a = some (.ins C dx fs) → fs.lookup f = some (.ref d) → H d = some (.frz o (.dK kvs)) →
        (∀ it es ep, o.data = .dict es ep → H it = none → s.heap.objs.size ≤ it → Q (.ref it) (L2.upd H it (ItK it d kvs.length ep))) → t { nx := fun _ H' => Q .non H', rt := Q } (start N [.ref a]) H) :
    KeysOk P w K mg base (k + 1) fi fd C f := by
  refine ⟨fun A outer s H a dx d fs o kvs hr e0 hbn ha hf hd => ?_⟩
  refine Fun.once F S (us := [.ref a]) (vs := [.ref a]) hr e0 hbn (.cons rfl .nil) rfl fun cdv hr' => ?_
  obtain ⟨t, ht, q⟩ := hb cdv A outer s H (fun _ _ _ => False) hr'
  exact ⟨t, ht, q a dx d fs o kvs (fun v H' => ∃ it es ep, v = .ref it ∧ o.data = .dict es ep ∧ s.heap.objs.size ≤ it ∧ H it = none ∧ H' = L2.upd H it (ItK it d kvs.length ep)) ha hf hd fun it es ep e1 e2 e3 => ⟨it, es, ep, rfl, e1, e3, e2, rfl⟩⟩
/-- a class with such an __iter__ -/
structure ItOwn (K : PySem.W.Frag) (C fi : Addr) : Prop where
  at_ : PySem.W.findIn K (.ref C) "__iter__" = some (some (.ref fi))
  fn : PySem.W.isFn K (.ref fi) = true
/-- walking it: the keys of its field -/
def iOwnK (C : Addr) (f : Str) (te : TE) : TI := fun σ H R => te σ H fun v H1 => ∃ a dx d fs o kvs, v = .ref a ∧ H1 a = some (.ins C dx fs) ∧ fs.lookup f = some (.ref d) ∧ H1 d = some (.frz o (.dK kvs)) ∧ R (Itk d o kvs) H1
theorem pi_ownK {X : Cx} {tg e : Expr} {te : TE} {k : Nat} {fi C : Addr} {fd : FuncData} {f : Str} (c : ItOwn X.K C fi) (hK : KeysOk X.prog X.w X.K X.mg X.base k fi fd C f) (hr : Room k X.A) (hb : Binds X.K fd ["self"] []) (he : PE X e te) : PI X tg e (iOwnK C f te) := by
  refine ⟨fun pins s σ H R I h => thn (he.run pins s σ H _ I h) fun u s1 ⟨x, H1, J, rx, a, dx, d, fs, o, kvs, ex, ha, hf, hd, q⟩ => ?_⟩
  subst ex
  cases rx
  obtain ⟨mA, O, _⟩ := ins_get J.hok ha
  obtain ⟨od, O, _⟩ := O.look
  obtain ⟨m0, hF⟩ := J.fr
  refine PySem.W.owit_iter hF J.ok.mod.kin O c.at_ c.fn (wpAny_call (codeAny_mono (hK.run X.A X.stack s1 H1 a dx d fs o kvs hr J.env0 (by
    have z := hb s1 [.ref a] J.kIn rfl
    simpa using z) ha hf hd) fun r s2 hq => ?_))
  cases r with
  | error e => exact False.elim hq
  | ok fl =>
    cases fl with
    | ret u =>
      obtain ⟨v, H2, J2, rv, it, es, ep, ev, hdt, hle, hn, eH⟩ := J.after hq
      subst ev
      cases rv
      subst eH
      have hit : (L2.upd H1 it (ItK it d kvs.length ep)) it = some (ItK it d kvs.length ep) := upd_same
      have young : X.s_0.heap.objs.size ≤ it := Nat.le_trans J.sz hle
      have st : s2.heap.IsKeyIter it d 0 kvs.length ep := (J2.hok it _ hit).1
      have J3 := inv_drop J2 hit
      have fp := inv_fp J2 hit young
      rw [dropH_upd hn] at J3 fp
      obtain ⟨oi, hoi, hoc, _⟩ := id st
      show PySem.W.OwitIt (model X.prog X.w) X.A (PIE X pins σ tg R) X.xe (.ref it) s2
      unfold PySem.W.OwitIt
      have hT : s2.TypeIs (.ref it) "dict_keyiterator" := ⟨oi, hoi, hoc⟩
      refine wpAny_specialOf hT PySem.F.slot_dict_keyiterator_next.lookup ?_
      refine ⟨it, [it], _, _, H1, rfl, J3, turn_keys it hdt, st, fun b hb => ?_, q⟩
      rw [List.mem_singleton.mp hb]
      exact fp
    | next => exact False.elim hq
    | brk => exact False.elim hq
    | cont => exact False.elim hq
end L2.Itr
set_option maxHeartbeats 4000000
/-! list(d), tuple(d): the keys in their order. -/
namespace PySem.W
open PySem PySem.Spec
section
variable {prog : Program} {w : World} {A : Around} {E : Value → Shared → Prop} {s : Shared} {T : String} {r d : Addr} {n : Nat} {P : Nat → Value → Prop} {OK : Heap → Prop}
/-- what such a thing gives when it is collected -/
theorem src_collect {Q : List Value → Shared → Prop} (K : KdlSrc prog w T r d n P OK) (hh : A.handled = none) (hok : OK s.heap) (hn : n ≤ sizeLine)
    (h : ∀ h' tk (acc : Array Value), (∀ b o, s.heap.get? b = some o → h'.get? b = some o) → ItemsOf P acc n → Q acc.toList { s with heap := h', toks := tk }) :
    wpAny (model prog w) A (collect (.ref r)) Q E s := by
  generalize hob : ({ cls := .type "list", data := .seq ([] : List Value).toArray } : Obj) = ob
  have low := K.there _ hok
  have kp : ∀ b o, s.heap.get? b = some o → (s.heap.push ob).get? b = some o := fun b o e => Heap.get?_push_of_some _ e
  have hS : (s.heap.push ob).get? s.heap.objs.size = some { cls := .type "list", data := .seq #[] } := by rw [← hob]; exact Heap.get?_push_size _ rfl
  unfold collect
  refine wpAny_bind (wpAny_runValue (codeAny_builtin PySem.F.entry_proto_collect ?_))
  rw [Around.under_plainId PySem.F.plain_proto_collect _]
  show wpAny _ A.in1 (newList [] >>= fun l => again (.builtin "list.__iadd__" ⟨[l, .ref r], []⟩)) _ _ s
  refine wpAny_bind (wpAny_newObj_type (wpAny_pure ⟨plainId_quiet PySem.F.plain_list_iadd _, codeAny_builtin PySem.F.entry_list_iadd ?_⟩))
  rw [Around.under_plainId PySem.F.plain_list_iadd _]
  rw [hob]
  show wpAny _ A.in1 (Builtin.List.listExtendWith (.ref s.heap.objs.size) (.ref r) (.ref s.heap.objs.size)) _ _ _
  have fin : ∀ h' tk acc c, (∀ b o, s.heap.get? b = some o → h'.get? b = some o) → h'.get? s.heap.objs.size = some { cls := .type "list", dict := none, data := .seq acc c, slots := #[] } → ItemsOf P acc n →
      wpAny (model prog w) A (match Value.ref s.heap.objs.size with
        | Value.ref a => do
          match (← load a).data with
            | Data.seq xs _ => pure xs.toList
            | _ => unsupported "internal:collect"
        | _ => unsupported "internal:collect") Q E { s with heap := h', toks := tk } := by
    intro h' tk acc c hk hl hi
    show wpAny _ A (load s.heap.objs.size >>= _) _ _ _
    exact wpAny_bind (wpAny_load hl (wpAny_pure (h h' tk acc hk hi)))
  have key := kdl_extend (A := A) (s := { s with heap := s.heap.push ob }) (R := fun q y => ∃ h' tk acc c, q = .ok (.ret (.ref s.heap.objs.size)) ∧ y = { s with heap := h', toks := tk } ∧ (∀ b o, s.heap.get? b = some o → h'.get? b = some o) ∧
      h'.get? s.heap.objs.size = some { cls := .type "list", dict := none, data := .seq acc c, slots := #[] } ∧ ItemsOf P acc n) K hh (K.keep _ _ hok fun b _ o e => kp b o e) s.heap.objs.size (Nat.ne_of_gt low.1) (Nat.ne_of_gt low.2) (.ref s.heap.objs.size) 0 hS
    (fun h' tk acc c hk hl hi => ⟨h', tk, acc, c, rfl, rfl, fun b o e => hk b o (Nat.ne_of_lt (Heap.lt_size e)) (kp b o e), hl, hi⟩) hn
  refine wpAny_mono key (fun f y z => ?_) fun e y z => ?_
  · cases f with
    | done f =>
      obtain ⟨h', tk, acc, c, e, rfl, hk, hl, hi⟩ := z
      cases e
      exact fin h' tk acc c hk hl hi
    | again c1 =>
      refine ⟨z.1, codeAny_mono z.2 fun q y2 z2 => ?_⟩
      obtain ⟨h', tk, acc, c, rfl, rfl, hk, hl, hi⟩ := z2
      exact fin h' tk acc c hk hl hi
  · obtain ⟨_, _, _, _, e2, _⟩ := z
    cases e2
/-- tuple(r) -/
theorem src_tuple {Q : Value → Shared → Prop} (K : KdlSrc prog w T r d n P OK) (hT0 : (Value.type T == Value.type "tuple") = false) (hh : A.handled = none) (hok : OK s.heap) (hn : n ≤ sizeLine)
    (h : ∀ (h' : Heap) tk (acc : Array Value), (∀ b o, s.heap.get? b = some o → h'.get? b = some o) → ItemsOf P acc n → Q (.ref h'.objs.size) { s with heap := h'.push { cls := .type "tuple", data := .seq acc }, toks := tk }) :
    wpAny (model prog w) A (call (.type "tuple") [.ref r]) Q E s := by
  have lookI := init_tuple_lookup
  have ft := PySem.F.called_tuple
  have hT := K.type s hok
  refine callType_codes (Q₁ := fun obj y => ∃ (h' : Heap) (tk : Nat) (acc : Array Value), obj = .ref h'.objs.size ∧ y = { s with heap := h'.push { cls := .type "tuple", data := .seq acc }, toks := tk } ∧ (∀ b o, s.heap.get? b = some o → h'.get? b = some o) ∧ ItemsOf P acc n)
    ft (PySem.F.typeCall_tuple_1 _) PySem.F.entry_object_init (codeAny_call_builtin ft.plain PySem.F.entry_tuple_new (wpAny_of_eq (PySem.F.newCall_tuple_1 _) ?_)) fun obj y hy => ?_
  · have hsub := sub_tuple_self
    have hmh := madeHere_tuple
    have co := fun (B : Around) (hB : B.handled = none) (Q2 : List Value → Shared → Prop) (E2 : Value → Shared → Prop) => src_collect (A := B) (Q := Q2) (E := E2) (s := s) K hB hok hn
    obtain ⟨hp, g, d', tk, os⟩ := s
    unfold Builtin.«tuple.__new__»
    generalize hC : collect = Cl
    wp_walk using wpAny_typeOf hT
    subst hC
    refine co A.in1.in1 hh _ _ fun h' tk' acc hk hi => ?_
    show wpAny _ _ (Builtin.Tuple.tupleExact acc.toList.toArray >>= fun v => ret v) _ _ _
    have ea : acc.toList.toArray = acc := by simp
    rw [ea]
    unfold Builtin.Tuple.tupleExact
    refine wpAny_bind (wpAny_newObj_type ?_ (by show acc.size ≤ sizeLine; rw [hi.1]; exact hn))
    exact wpAny_pure ⟨h', tk', acc, rfl, rfl, hk, hi⟩
  · obtain ⟨h', tk, acc, rfl, rfl, hk, hi⟩ := hy
    have hT2 : Shared.TypeIs { s with heap := h'.push { cls := .type "tuple", data := .seq acc }, toks := tk } (.ref h'.objs.size) "tuple" := ⟨_, Heap.get?_push_size _ rfl, rfl⟩
    refine ⟨hT2, PySem.F.args_object_init_2 _ _, object_init_meets ft.init.lookup ft.made (by decide) prog w A.in1 _ _ ⟨hT2, rfl, h h' tk acc hk hi⟩⟩
end
end PySem.W
namespace L2.Dls
open PySem PySem.Spec PyProof.Rows L2.Ev
theorem vals_at : ∀ {xs : List V} {us : List Value}, us.length = xs.length → (∀ (j : Nat) (u : Value), us[j]? = some u → ∃ x, xs[j]? = some x ∧ RelV x u) → Vals xs us
  | [], [], _, _ => .nil
  | x :: xs, u :: us, hl, h => by
    obtain ⟨y, e, r⟩ := h 0 u rfl
    have e : x = y := by simpa using e
    subst e
    exact .cons r (vals_at (by simpa using hl) fun j w hw => by simpa using h (j + 1) w (by simpa using hw))
/-- the dict at d, as it may be read -/
def DRd (H : Hp) (d : Addr) (kvs : List (Key × V)) : Prop := H d = some (.dK kvs) ∨ ∃ o, H d = some (.frz o (.dK kvs))
section
variable {X : Cx} {pins : List (Addr × Obj)} {σ : L2.St} {H : Hp} {s : Shared}
theorem drd_at {d : Addr} {kvs : List (Key × V)} (I : Inv X pins σ H s) (h : DRd H d kvs) : (d == sysModules) = false ∧ kvs.length ≤ sizeLine ∧ ∃ (vs : List (Key × Value)) (ep : Nat), KV kvs vs ∧ s.heap.DictAt (mixKind X.prog X.w) d vs ep := by
  have core : ObjOk X.prog X.w H s.heap d (.dK kvs) := by
    rcases h with h | ⟨o, h⟩
    · exact I.hok d _ h
    · exact (I.hok d _ h).2
  obtain ⟨z, hs, vs, kv, o, es, ep, ho, hx, hdt, r⟩ := core
  exact ⟨hs, z, vs, ep, kv, o, es, ho, hx, hdt, r⟩
theorem keys_vals {kvs : List (Key × V)} {vs : List (Key × Value)} {acc : Array Value} (kv : KV kvs vs) (hi : ItemsOf (fun i v => ∃ k x, vs[i]? = some (k, x) ∧ (mixKind X.prog X.w).is k v = true) acc vs.length) : Vals (kvs.map fun p => kV p.1) acc.toList := by
  have hl : kvs.length = vs.length := Paired.length kv
  refine vals_at (by rw [Array.length_toList, hi.1, List.length_map, hl]) fun j u hu => ?_
  obtain ⟨k, x, e, hk⟩ := hi.2 j u (by rw [← Array.getElem?_toList]; exact hu)
  have hj : j < vs.length := (List.getElem?_eq_some_iff.mp e).1
  obtain ⟨p, hp⟩ : ∃ p, kvs[j]? = some p := ⟨kvs[j]'(by omega), List.getElem?_eq_getElem (by omega)⟩
  obtain ⟨u2, hu2, ru2⟩ := kv_get kv (show kvs[j]? = some (p.1, p.2) from hp)
  rw [hu2] at e
  cases e
  exact ⟨kV p.1, by rw [List.getElem?_map, hp]; rfl, relV_key hk⟩
/-- list(d) -/
def rListD : List V → Hp → VK → Prop := fun xs H Q => ∃ d kvs, xs = [.ref d] ∧ DRd H d kvs ∧ Lays H (.lst (kvs.map fun p => kV p.1)) Q
theorem list_ofD (hc : X.calm = true) : CallR X (.type "list") rListD := by
  intro pins s σ H xs us Q I r h
  obtain ⟨d, kvs, rfl, hd, q⟩ := h
  obtain ⟨u, rfl, ru⟩ := vals1 r
  cases ru
  obtain ⟨hs, hz, vs, ep, kv, hm⟩ := drd_at I hd
  have hl : kvs.length = vs.length := Paired.length kv
  refine PySem.W.kdl_call (PySem.W.kdl_dict (knd := mixKind X.prog X.w) hs) (I.ok.hd hc) hm (by omega) fun h' tk acc c hk hS hi => ?_
  have new : ObjOk X.prog X.w (L2.upd H s.heap.objs.size (.lst (kvs.map fun p => kV p.1))) h' s.heap.objs.size (.lst (kvs.map fun p => kV p.1)) := ⟨by rw [List.length_map]; exact hz, acc.toList, c, keys_vals (X := X) kv hi, by rw [Array.toArray_toList]; exact hS⟩
  exact ⟨_, _, I.laid (t' := tk) hk (Nat.le_refl _) new, (show RelV (.ref s.heap.objs.size) _ from rfl), q.at _ (I.hok.fresh (Nat.le_refl _))⟩
/-- tuple(d) -/
def rTupD : List V → Hp → VK → Prop := fun xs H Q => ∃ d kvs, xs = [.ref d] ∧ DRd H d kvs ∧ Lays H (.tup (kvs.map fun p => kV p.1)) Q
theorem tup_ofD (hc : X.calm = true) : CallR X (.type "tuple") rTupD := by
  intro pins s σ H xs us Q I r h
  obtain ⟨d, kvs, rfl, hd, q⟩ := h
  obtain ⟨u, rfl, ru⟩ := vals1 r
  cases ru
  obtain ⟨hs, hz, vs, ep, kv, hm⟩ := drd_at I hd
  have hl : kvs.length = vs.length := Paired.length kv
  refine PySem.W.src_tuple (PySem.W.kdl_dict (knd := mixKind X.prog X.w) hs) (by decide) (I.ok.hd hc) hm (by omega) fun h' tk acc hk hi => ?_
  have J : Inv X pins σ H { s with heap := h', toks := tk } := I.kept (t' := tk) hk
  have J2 : Inv X pins σ (L2.upd H h'.objs.size (.tup (kvs.map fun p => kV p.1))) { s with heap := h'.push { cls := .type "tuple", data := .seq acc }, toks := tk } :=
    J.laid (t' := tk) (fun b o e => Heap.get?_push_of_some _ e) (Nat.le_refl _) (show ObjOk X.prog X.w _ _ _ (.tup (kvs.map fun p => kV p.1)) from ⟨by rw [List.length_map]; exact hz, acc.toList, keys_vals (X := X) kv hi, by rw [Array.toArray_toList]; exact IsTup.new _ _⟩)
  exact ⟨.ref h'.objs.size, _, J2, rfl, q.at _ (J.hok.fresh (Nat.le_refl _))⟩
end
end L2.Dls
set_option maxHeartbeats 4000000
/-! Defs whose code objects are known; the tables of code objects at the end of a law row. -/
namespace L2.Gq
open PySem PySem.Spec PyProof.Rows
section
variable {P : Program} {w : World} {K : PySem.W.Frag} {mg : Str → Option Value} {base : Heap}
/-- a def by its body, its code object at c -/
theorem Fun.okC {x qual : Str} {st : Stmt} {f c : Addr} {fd : FuncData} {N ps : List Str} {k : Nat} {sp : Sp} (F : Fun K x qual st f fd) (hc : fd.code = .ref c) (S : FnScope N ps (defScope st)) (len : ∀ vs H Q E, sp vs H Q E → vs.length = ps.length)
    (hbody : ∀ (A : Around) (outer : List Env) (s : Shared) (H : Hp) (vs : List V) (Q : VK) (E : XK), Room k (A.deeper (envOfC qual (defScope st) s.heap.objs.size f (.ref c))) → sp vs H Q E →
      ∃ t, PSs (cxOf CX0 P w K mg base N qual (defScope st) f (.ref c) A outer s H E).nox (defBody st) t ∧ t { nx := fun _ H' => Q .non H', rt := Q } (start N vs) H) : FnOk P w K mg base CX0 (k + 1) f fd ps sp := by
  obtain ⟨oc, od, kV, doc, pm, an, cdv, ct, osl, rfl, lk, hcd⟩ := F.ex
  obtain rfl : cdv = .ref c := hc
  refine fn_of lk hcd S len fun A outer s H vs Q E hr hsp => ?_
  obtain ⟨t, h, q⟩ := hbody A outer s H vs Q E hr hsp
  exact ⟨t, h.nox, q⟩
theorem Fun.okXC {x qual : Str} {st : Stmt} {f c : Addr} {fd : FuncData} {N ps : List Str} {k : Nat} {sp : Sp} (F : Fun K x qual st f fd) (hc : fd.code = .ref c) (S : FnScope N ps (defScope st)) (len : ∀ vs H Q E, sp vs H Q E → vs.length = ps.length)
    (hbody : ∀ (A : Around) (outer : List Env) (s : Shared) (H : Hp) (vs : List V) (Q : VK) (E : XK), Room k (A.deeper (envOfC qual (defScope st) s.heap.objs.size f (.ref c))) → sp vs H Q E →
      ∃ t, PSs (cxOf (L2.CX P w) P w K mg base N qual (defScope st) f (.ref c) A outer s H E) (defBody st) t ∧ t { nx := fun _ H' => Q .non H', rt := Q } (start N vs) H) : FnOk P w K mg base (L2.CX P w) (k + 1) f fd ps sp := by
  obtain ⟨oc, od, kV, doc, pm, an, cdv, ct, osl, rfl, lk, hcd⟩ := F.ex
  obtain rfl : cdv = .ref c := hc
  exact fn_of lk hcd S len fun A outer s H vs Q E hr hsp => hbody A outer s H vs Q E hr hsp
/-- the tables told of as things that may grow unseen -/
def tabH (L : List Addr) (H : Hp) : Hp := fun b => if b ∈ L then some (TabX b) else H b
/-- .. and told of as they stand -/
def untabH (L : List Addr) (h : Heap) (H : Hp) : Hp := fun b => if b ∈ L then (match (h.get? b).map (fun o : Obj => o.data) with | some (Data.fields ps) => some (HO.tbl ps) | _ => none) else H b
theorem tabH_in {L : List Addr} {H : Hp} {b : Addr} (h : b ∈ L) : tabH L H b = some (TabX b) := if_pos h
theorem tabH_out {L : List Addr} {H : Hp} {b : Addr} (h : b ∉ L) : tabH L H b = H b := if_neg h
theorem fn_tabs {f : Addr} {fd : FuncData} {ps : List Str} {k : Nat} {sp : Sp} (L : List Addr) (F : FnOk P w K mg base CX0 k f fd ps sp) :
    FnOk P w K mg base CX0 k f fd ps (fun vs H Q E => (∀ b ∈ L, H b = some (.tbl #[])) ∧ sp vs (tabH L H) (fun v H' => (∀ b ∈ L, H' b = some (TabX b)) ∧ ∀ H2, Q v H2) E) := by
  refine ⟨fun vs H Q E h => F.len _ _ _ _ h.2, fun A outer s H args us vs Q E hr e0 hb r ⟨hL, hsp⟩ => ?_⟩
  have non : ∀ b, H b = none → b ∉ L := fun b e z => by
    rw [hL b z] at e; cases e
  have oth : ∀ b u, H b = some u → (∀ ps, u ≠ .tbl ps) → b ∉ L := fun b u e n z => by
    rw [hL b z] at e
    exact n _ (Option.some.inj e).symm
  have hok : HOk P w (tabH L H) s.heap := fun b u e => by
    by_cases hb : b ∈ L
    · rw [tabH_in hb] at e
      cases e
      exact tabX_ok (ps := #[]) (e0.hok b _ (hL b hb)) (by trivial)
    · rw [tabH_out hb] at e
      exact (e0.hok b u e).stay (fun _ _ _ z => z) (fun c q => by rw [tabH_out (oth c _ q fun _ z => nomatch z)]; exact q) fun c xs q => by rw [tabH_out (oth c _ q fun _ z => nomatch z)]; exact q
  have e1 : Env0 P w K mg base A outer s (tabH L H) := ⟨e0.frames, e0.mod, fun b o e => ⟨(e0.bs b o e).1, by rw [tabH_out (non b (e0.bs b o e).2)]; exact (e0.bs b o e).2⟩, e0.bsz, e0.funs, fun b hb => by rw [tabH_out (non b (e0.frf b hb))]; exact e0.frf b hb, hok, e0.bare⟩
  refine codeAny_mono (F.run A outer s (tabH L H) args us vs _ E hr e1 hb r hsp) fun q s' hq => ?_
  cases q with
  | error e => exact False.elim hq
  | ok fl =>
    cases fl with
    | next => exact False.elim hq
    | brk => exact False.elim hq
    | cont => exact False.elim hq
    | ret u =>
      obtain ⟨v, H', os, bare, un, hok', rv, hT, q⟩ := hq
      have tabs : ∀ b ∈ L, ∃ qs : Array Value, s'.heap.get? b = some { cls := .none, data := .fields qs } := fun b hb => by
        obtain ⟨⟨qs, e, _⟩, _⟩ := (show ObjOk P w H' s'.heap b (TabX b) from hok' b _ (hT b hb))
        exact ⟨qs, e⟩
      have inn : ∀ b ∈ L, ∃ qs, untabH L s'.heap H' b = some (.tbl qs) ∧ s'.heap.get? b = some { cls := .none, data := .fields qs } := fun b hb => by
        obtain ⟨qs, e⟩ := tabs b hb
        refine ⟨qs, ?_, e⟩
        unfold untabH
        rw [if_pos hb, e]; rfl
      have out : ∀ b, b ∉ L → untabH L s'.heap H' b = H' b := fun b hb => if_neg hb
      have oth' : ∀ b u, H' b = some u → (∀ φ, u ≠ .ext φ) → b ∉ L := fun b u e n z => by
        rw [hT b z] at e
        exact n _ (Option.some.inj e).symm
      refine ⟨v, untabH L s'.heap H', os, bare, ⟨fun b o e n hf hx => ?_, fun b o e n hf hx => ?_, fun b o e n hx => ?_, un.there, fun b xs e => ?_, fun b o u e => ?_, fun b ps e => ?_⟩, fun b u e => ?_, rv, q _⟩
      · exact un.keep b o e (by rw [tabH_out (non b n)]; exact n) hf hx
      · exact un.slot b o e (by rw [tabH_out (non b n)]; exact n) hf hx
      · rw [out b (non b n)]
        exact un.free b o e (by rw [tabH_out (non b n)]; exact n) hx
      · have nb := oth b _ e fun _ z => nomatch z
        rw [out b nb]
        exact un.tups b xs (by rw [tabH_out nb]; exact e)
      · have nb := oth b _ e fun _ z => nomatch z
        rw [out b nb]
        exact un.frzs b o u (by rw [tabH_out nb]; exact e)
      · by_cases hb : b ∈ L
        · rw [hL b hb] at e
          cases e
          obtain ⟨qs, e1, _⟩ := inn b hb
          exact ⟨qs, by rw [e1]; simp⟩
        · rw [out b hb]
          exact un.tbls b ps (by rw [tabH_out hb]; exact e)
      · by_cases hb : b ∈ L
        · obtain ⟨qs, e1, e2⟩ := inn b hb
          rw [e1] at e
          cases e
          exact e2
        · rw [out b hb] at e
          exact (hok' b u e).stay (fun _ _ _ z => z) (fun c z => by rw [out c (oth' c _ z fun _ y => nomatch y)]; exact z) fun c xs z => by rw [out c (oth' c _ z fun _ y => nomatch y)]; exact z
end
theorem tabIn_of {K : PySem.W.Frag} {x : Str} {f c P : Addr} {a a2 : Value} {b b2 : Option Addr} {fd : FuncData} {sl sl2 : Array (Option Value)} {vs : Array Value} (h1 : PySem.W.nsIn K mainGlobals x = some (some (.ref f))) (h2 : K.lookup f = some ⟨a, b, .func fd, sl⟩)
    (h3 : fd.code = .ref c) (h4 : K.lookup c = some ⟨a2, b2, .fields vs, sl2⟩) (h5 : vs[11]? = some (.ref P)) : PySem.W.tabIn K x = some (c, P) := by
  unfold PySem.W.tabIn
  rw [h1]
  show (match K.lookup f with | some ⟨_, _, .func fd, _⟩ => _ | _ => none) = _
  rw [h2]
  show (match fd.code with | .ref c => _ | _ => none) = _
  rw [h3]
  show (match K.lookup c with | some ⟨_, _, .fields vs, _⟩ => _ | _ => none) = _
  rw [h4]
  show (match (vs[11]? : Option Value) with | some (.ref P) => some (c, P) | _ => none) = _
  rw [h5]
/-- the end of a law row, the top as it stands handed on -/
theorem walk_tabs {l : PySem.W.OpenLaw} {n k : Nat} {q : Program} {loose : List Str} {XP : (Str → Option Value) → Heap → Prop} {YP : World → Heap → Prop} {d : DefRec} {K : Params → PySem.W.Frag} {x : Str} (hn : l.most = some n) (hn2 : n ≤ sizeLine) (hdf : d.params.defaults = []) (hr : Room k callerA) (hY : ∀ (w : World) (h : Heap), YP w h → (K w.params).In h)
    (F : ∀ (w : World) (s₀ : Shared) (mg mb : Str → Option Value) (fa : Addr) (h : Heap), PySem.W.Ground q loose [] XP w s₀ mg mb h → (K w.params).In h → mg d.name = some (.ref fa) → LamX.LawAtS l w (K w.params) CX0 k n x mg fa h) :
    PySem.W.WalkO q loose XP YP l.row.toRowW d [] (fun f vs => PySem.call f vs) := by
  refine Att.attach_callB hn hdf fun w s₀ s₁ mg mb fa o pm cd doc a vs ns G Y ho hd hcd hmg hobj hints hlen hbits hg => ?_
  obtain ⟨fd, cs, sp, hT, nT, C, hb, hsp, hF⟩ := F w s₀ mg mb fa _ G (hY w _ Y) hmg
  exact LamX.law_callTs (hY w _ Y) G.T.g G.T.b G.T.builtins G.T.nolimit hg hT nT C G.T.bmain hobj hints (Nat.le_trans hlen hn2) hr hF hb (fun H hH hS => hsp H a ns hlen hbits hH hS) fun H e s' z => z
/-- a question without tests: f by the turn, Pv what holds by the turn -/
theorem q_turns {J : It} {gt : TG} {te : TE} {vs : List Nat} {σ : L2.St} {stop : Bool} {Qb : Bool → Hp → Prop} {H1 : Hp} {n : Nat} (f : Nat → Bool) (Pv : Nat → Hp → Prop) (h0 : Pv 0 H1) (hst : ∀ H, Pv n H → J.stop n H) (hgo : ∀ i H, i < n → Pv i H → J.go i H)
    (hstep : ∀ i x H H' (Qc : VK), i < n → Pv i H → J.yld i H x H' → (∀ H4, Pv (i + 1) H4 → Qc (.bl (f i)) H4) → gt x (wipe σ vs) H' fun σ2 H2 => wipe σ2 vs = wipe σ vs ∧ te σ2 H2 Qc)
    (hend : ∀ H, Pv n H → (∀ j, j < n → f j = !stop) → Qb (!stop) H) (hstop : ∀ i H, i < n → Pv (i + 1) H → f i = stop → (∀ j, j < i → f j = !stop) → Qb stop H) :
    ∃ W : Nat → Nat → Hp → Prop, (∃ m, W 0 m H1) ∧ QTurn J gt tYes te vs σ stop Qb W := by
  refine ⟨fun i m H => m = n - i ∧ i ≤ n ∧ Pv i H ∧ ∀ j, j < i → f j = !stop, ⟨n, rfl, Nat.zero_le _, h0, fun j hj => absurd hj (Nat.not_lt_zero _)⟩, ?_⟩
  rintro i m H ⟨rfl, hi, hp, hf⟩
  by_cases hlt : i < n
  · refine .inr ⟨hgo i H hlt hp, fun H' => Pv (i + 1) H' ∧ f i = !stop, fun H' ⟨p, e⟩ => ⟨n - (i + 1), by omega, rfl, hlt, p, fun j hj => ?_⟩, fun x H' y => ?_⟩
    · by_cases hji : j = i
      · rw [hji]; exact e
      · exact hf j (by omega)
    · refine hstep i x H H' _ hlt hp y fun H4 p4 => ⟨f i, rfl, fun e => hstop i H4 hlt p4 e hf, fun e => ⟨p4, ?_⟩⟩
      cases hfi : f i <;> cases stop <;> simp_all
  · obtain rfl : i = n := by omega
    exact .inl ⟨hst H hp, hend H hp hf⟩
theorem all_answer {n : Nat} {f : Nat → Bool} (h : ∀ j, j < n → f j = true) : (List.range n).all f = true := by
  rw [List.all_eq_true]; exact fun j hj => h j (List.mem_range.mp hj)
theorem all_not {n i : Nat} {f : Nat → Bool} (hi : i < n) (h : f i = false) : (List.range n).all f = false := by
  rw [List.all_eq_false]; exact ⟨i, List.mem_range.mpr hi, by simp [h]⟩
theorem any_answer {n i : Nat} {f : Nat → Bool} (hi : i < n) (h : f i = true) : (List.range n).any f = true := by
  rw [List.any_eq_true]; exact ⟨i, List.mem_range.mpr hi, h⟩
theorem any_not {n : Nat} {f : Nat → Bool} (h : ∀ j, j < n → f j = false) : (List.range n).any f = false := by
  rw [List.any_eq_false]; exact fun j hj => by simp [h j (List.mem_range.mp hj)]
/-- a name of the module that is bound to a number, to a text -/
theorem pe_globI {X : Cx} {x : Str} {pos : Pos} {i : Int} (hg : Gl X x) (h : ∃ t, X.mg x = some (Value.int i t)) (hd : (x == ("__debug__" : Str)) = false := by decide) : PE X (.Name x pos) (tC (.int i)) :=
  ⟨fun pins s σ H Q I q => let ⟨t, e⟩ := h; ld_glob I hg e ⟨.int i, H, I, ⟨t, rfl⟩, q⟩ hd⟩
theorem pe_globS {X : Cx} {x y : Str} {pos : Pos} (hg : Gl X x) (h : ∃ t, X.mg x = some (Value.str y t)) (hd : (x == ("__debug__" : Str)) = false := by decide) : PE X (.Name x pos) (tC (.str y)) :=
  ⟨fun pins s σ H Q I q => let ⟨t, e⟩ := h; ld_glob I hg e ⟨.str y, H, I, ⟨t, rfl⟩, q⟩ hd⟩
end L2.Gq
set_option maxHeartbeats 4000000
/-! enumerate(xs), xs a list or a tuple. -/
namespace PySem
open Sem (wp)
theorem meets_enumB1 {v : Value} {o : Obj} {H : Heap → Prop} (B : Begins v o H) :
    Meets (Builtin.«enumerate.__new__» ⟨[.type "enumerate", v], []⟩) (fun _ R s => H s.heap ∧
      R (.ok (.ret (.ref (s.heap.push o).objs.size))) { s with heap := (s.heap.push o).push (enOf s.heap.objs.size 0) }) :=
  .of_wp fun prog w A R s h => by
    obtain ⟨hp, g, d, tk, os⟩ := s; obtain ⟨h1, h⟩ := h
    have hsub := sub_enumerate
    have q1 : ∀ {A' : Around} {E : Value → Shared → Prop} {Q : Value → Shared → Prop}, Q (.ref hp.objs.size) ⟨hp.push o, g, d, tk, os⟩ → wpAny (model prog w) A' (pyIter v) Q E ⟨hp, g, d, tk, os⟩ :=
      fun q => B.iter prog w _ _ ⟨hp, g, d, tk, os⟩ _ h1 q
    wp_walk using q1
    refine wpAny_stack_any fun st => wpAny_pure ?_
    split
    · rename_i c _ _ _ _ _
      cases (c == Value.type "enumerate")
      · wp_walk using q1
        exact ⟨_, rfl, h⟩
      · wp_walk using q1
        exact ⟨_, rfl, h⟩
    · wp_walk using q1
      exact ⟨_, rfl, h⟩
section
variable {prog : Program} {w : World} {A : Around} {E : Value → Shared → Prop} {s : Shared}
theorem enum_begins1 {v : Value} {o : Obj} {H : Heap → Prop} {Q : Value → Shared → Prop} (B : Begins v o H) (h1 : H s.heap)
    (h : ∀ h', IsEnum h' (s.heap.objs.size + 1) s.heap.objs.size 0 .none → h'.get? s.heap.objs.size = some o → h'.objs.size = s.heap.objs.size + 2 →
      (∀ b o, s.heap.get? b = some o → h'.get? b = some o) → Q (.ref (s.heap.objs.size + 1)) { s with heap := h' }) :
    wpAny (model prog w) A (call (.type "enumerate") [v]) Q E s := by
  refine callType_new F.called_enumerate (by decide) (F.typeCall_enumerate_1 _) (F.newCall_enumerate_1 _) (fun obj => F.args_object_init_2 obj _) F.entry_enumerate_new
    (meets_enumB1 B) ⟨h1, ?_⟩
  have hz : (s.heap.push o).objs.size = s.heap.objs.size + 1 := Heap.size_push ..
  show _ ∧ _
  rw [hz]
  have he : IsEnum ((s.heap.push o).push (enOf s.heap.objs.size 0)) (s.heap.objs.size + 1) s.heap.objs.size 0 .none := by
    have := Heap.get?_push_size (s.heap.push o) (o := enOf s.heap.objs.size 0) rfl
    rw [hz] at this; exact this
  refine ⟨⟨_, he, rfl⟩, h _ he (Heap.get?_push_of_some _ (Heap.get?_push_size _ B.free)) (by rw [Heap.size_push, hz]) fun b o x => Heap.get?_push_of_some _ (Heap.get?_push_of_some _ x)⟩
theorem draws_overT (hh : A.handled = none) (it t : Addr) (items : Array Value) (i : Nat) (hx : items[i]? = none) :
    Draws prog w A it [it, t] i (fun _ _ => False) (fun j h => j = i ∧ h.IsTupleIter it t i ∧ h.IsTuple t items) where
  live := fun _ _ ⟨_, st, _⟩ => let ⟨o, ho, _⟩ := st; ⟨o, ho⟩
  frame := fun _ _ _ ⟨e, st, st2⟩ hk => ⟨e, st.at fun o e => hk it (by simp) o e, st2.at fun o e => hk t (by simp) o e⟩
  item := fun j s Q E hj ⟨e, _⟩ hQ => absurd hj (by omega)
  done := fun s Q E ⟨_, st, st2⟩ hE => wpAny_nextOf_tuple_end hh st st2 hx hE
end
end PySem
namespace L2.Ent
open PySem PySem.Spec PyProof.Rows
/-- the tuple at a, each item in a new pair -/
def IteT (K : PySem.W.Frag) (a : Addr) : It :=
  ⟨fun i H => ∃ (xs : List V) (x : V), SqT K H a xs ∧ xs[i]? = some x, fun i H v H' => ∃ T x, v = .ref T ∧ H T = none ∧ H' = upd H T (.tup [.int (i : Nat), x]) ∧ ∀ xs, SqT K H a xs → xs[i]? = some x, fun i H => ∃ xs : List V, SqT K H a xs ∧ xs.length ≤ i⟩
theorem turn_enumT {P : Program} {w : World} {K : PySem.W.Frag} {elts : List Expr} {kk : Nat} {tpos : Pos} (a e it : Addr) :
    Turn P w K (.Tuple elts kk tpos) (IteT K a) [e, it] e (fun i h => (∃ old, IsEnum h e it ((i : Nat) : Int) old) ∧ h.IsTupleIter it a i ∧ e ≠ it) where
  mem := by simp
  obj := fun i h st b hb => by
    obtain ⟨⟨old, he⟩, ⟨o, ho, hc, hd⟩, _⟩ := st
    have e' : b = e ∨ b = it := by simpa using hb
    rcases e' with z | z
    · rw [z]; exact ⟨_, he, fun v q => nomatch q⟩
    · rw [z]; exact ⟨o, ho, fun v q => by rw [hd] at q; cases q⟩
  keep := fun i h h' st kp => let ⟨⟨old, he⟩, hi, hne⟩ := st; ⟨⟨old, kp e (by simp) _ he⟩, hi.at fun o q => kp it (by simp) o q, hne⟩
  item := by
    intro X hP hw hK hc i pins s σ H E I hf st hg
    subst hP hw hK
    obtain ⟨⟨old, he⟩, hit, hne⟩ := st
    obtain ⟨xs, x, hq, hx⟩ := hg
    obtain ⟨its, rv, p, hz⟩ := I.tuple hq
    have p : s.heap.IsTuple a its.toArray := p
    obtain ⟨u, hu, ru⟩ := rv.get hx
    have hel : e < s.heap.objs.size := Heap.lt_size he
    have hil : it < s.heap.objs.size := by obtain ⟨_, q, _⟩ := hit; exact Heap.lt_size q
    have hai : a ≠ it := fun z => by
      obtain ⟨o1, e1, c1, d1⟩ := hit
      obtain ⟨o2, e2, c2, n2, d2⟩ := p
      rw [z, e1] at e2
      cases e2
      rw [d1] at d2
      cases d2
    have hae : a ≠ e := fun z => by
      obtain ⟨o2, e2, c2, n2, d2⟩ := p
      rw [z, he] at e2
      cases e2
      cases d2
    have hil2 : i < its.length := by
      have q := List.getElem?_eq_some_iff.mp hu
      exact q.1
    refine wpAny_pyNext_enum_itemD (Draws.tuple (A := X.A.in1) (I.ok.hd hc) it a hai its.toArray) (i := i) he ⟨hit, p⟩ (by simp; exact hil2) hne (by simp; exact ⟨hne, Ne.symm hae⟩) fun x' h' tk hx' ho hst hT hsz hk => ?_
    have exu : x' = u := by
      have q : its.toArray[i]? = some u := by simpa using hu
      rw [q] at hx'
      exact (Option.some.inj hx').symm
    subst exu
    obtain ⟨hit', _⟩ := hst
    refine ⟨_, rfl, wpAny_letOwnedTupleGo_enum (s := { s with heap := h', toks := tk + 1 }) ho fun h'' he' sb => ?_⟩
    have hT2 : h''.get? s.heap.objs.size = some { cls := .type "tuple", data := .seq #[.int ((i : Nat) : Int) tk, x'] } := (sb.2 _ (Nat.ne_of_gt hel)).trans hT
    have new : ObjOk X.prog X.w (upd H s.heap.objs.size (.tup [.int ((i : Nat) : Int), x])) h'' s.heap.objs.size (.tup [.int ((i : Nat) : Int), x]) :=
      ⟨by show 2 ≤ sizeLine; decide, [.int ((i : Nat) : Int) tk, x'], .cons ⟨_, rfl⟩ (.cons ru .nil), ⟨_, hT2, rfl, _, rfl⟩⟩
    have I1 : Inv X pins σ (upd H s.heap.objs.size (.tup [.int ((i : Nat) : Int), x])) { s with heap := h'', toks := tk + 1 } :=
      I.turnedNew (ch := [e, it]) (fun b ob hb q => (sb.2 b (fun z => hb (by simp [z]))).trans (hk b ob (fun z => hb (by simp [z])) (fun z => hb (by simp [z])) q)) hf (Nat.le_refl _) new
    refine ⟨.ref s.heap.objs.size, _, I1, rfl, ⟨_, x, rfl, I.hok.fresh (Nat.le_refl _), rfl, fun ys hy => by rw [I.tuple_inj hy hq]; exact hx⟩, ⟨⟨x', ?_⟩, hit'.at fun o q => (sb.2 it (Ne.symm hne)).trans q, hne⟩, fun b hb => ?_⟩
    · have e1 : ((i + 1 : Nat) : Int) = (i : Int) + 1 := by omega
      rw [e1]; exact he'
    · have hb' : b < s.heap.objs.size := by
        have e' : b = e ∨ b = it := by simpa using hb
        rcases e' with z | z
        · rw [z]; exact hel
        · rw [z]; exact hil
      rw [upd_ne (Nat.ne_of_lt hb')]
      exact (hf b hb).1
  done := by
    intro X hP hw hK hc i pins s σ H E I hf st hg
    subst hP hw hK
    obtain ⟨⟨old, he⟩, hit, hne⟩ := st
    obtain ⟨xs, hq, hx⟩ := hg
    obtain ⟨its, rv, p, hz⟩ := I.tuple hq
    have p : s.heap.IsTuple a its.toArray := p
    obtain ⟨f0, f1, f2, f3, f4, f5⟩ := hf it (by simp)
    have hl := rv.length
    have hx' : its.toArray[i]? = none := by
      have q : its[i]? = none := List.getElem?_eq_none_iff.mpr (by omega)
      simpa using q
    exact wpAny_pyNext_enum_endD (draws_overT (A := X.A.in1) (I.ok.hd hc) it a its.toArray i hx') he ⟨rfl, hit, p⟩ fun h' eb => ⟨rfl, I.turned (t' := s.toks) (fun b o hb q => eb b o hb q) f0 f1 f3 f4 f5⟩
  self := fun A i s Q E st h => let ⟨⟨_, he⟩, _⟩ := st; wpAny_pyIter_enum he h
def iEnumS (K : PySem.W.Frag) (ta : TA) : TI := fun σ H R => ta σ H fun vs H1 => ∃ a xs, vs = [.ref a] ∧ ((SqL K H1 a xs ∧ R (Ite K a) H1) ∨ (SqT K H1 a xs ∧ R (IteT K a) H1))
theorem pi_enumS {X : Cx} {e : Expr} {ta : TA} {p pos tpos : Pos} {elts : List Expr} {kk : Nat} (hg : Gl X "enumerate") (hm : X.mg "enumerate" = none) (ha : PA X [e] ta) (hs : starEach [e] X.env = [(false, eval e X.env)] := by rfl) :
    PI X (.Tuple elts kk tpos) (.Call (.Name "enumerate" p) [e] [] pos) (iEnumS X.K ta) := by
  refine ⟨fun pins s σ H R I h => ?_⟩
  refine Call_ (ld_blt I hg hm boot_enumerate (PyProof.Rows.callWith_type1 (thn (ha.run pos pins s σ H _ I h) fun us s1 ⟨vs, H1, I1, r1, q1⟩ => ?_) hs rfl))
  obtain ⟨a, xs, ex, hq⟩ := q1
  subst ex
  cases r1 with
  | cons r rr =>
    cases rr
    cases r
    have e' : ∀ b ∈ [s1.heap.objs.size + 1, s1.heap.objs.size], s1.heap.objs.size ≤ b := fun b hb => by
      have e' : b = s1.heap.objs.size + 1 ∨ b = s1.heap.objs.size := by simpa using hb
      rcases e' with z | z
      · rw [z]; exact Nat.le_add_right _ _
      · rw [z]; exact Nat.le_refl _
    rcases hq with ⟨hq, q⟩ | ⟨hq, q⟩
    · obtain ⟨its, rv, p', hz⟩ := I1.list hq
      refine call_enumerate_list p'.isList fun h' he hit hsz hk => wpAny_pyIter_enum he ?_
      have I2 : Inv X pins σ H1 { s1 with heap := h' } := I1.kept (t' := s1.toks) hk
      exact ⟨s1.heap.objs.size + 1, [s1.heap.objs.size + 1, s1.heap.objs.size], _, _, H1, rfl, I2, turn_enum a (s1.heap.objs.size + 1) s1.heap.objs.size, ⟨⟨.none, he⟩, hit, Nat.succ_ne_self _⟩, fun b hb => I1.fpOk (e' b hb) (I1.hok.fresh (e' b hb)), q⟩
    · obtain ⟨its, rv, p', hz⟩ := I1.tuple hq
      refine enum_begins1 (begins_tuple a its.toArray) p' fun h' he hit hsz hk => wpAny_pyIter_enum he ?_
      have I2 : Inv X pins σ H1 { s1 with heap := h' } := I1.kept (t' := s1.toks) hk
      exact ⟨s1.heap.objs.size + 1, [s1.heap.objs.size + 1, s1.heap.objs.size], _, _, H1, rfl, I2, turn_enumT a (s1.heap.objs.size + 1) s1.heap.objs.size, ⟨⟨.none, he⟩, ⟨_, hit, rfl, rfl⟩, Nat.succ_ne_self _⟩, fun b hb => I1.fpOk (e' b hb) (I1.hok.fresh (e' b hb)), q⟩
theorem walk_enumT {K : PySem.W.Frag} {a : Addr} {xs : List V} : Walk (IteT K a) xs.length (fun H => SqT K H a xs) (YPair (fun i => some (.int (i : Nat))) (fun i => xs[i]?)) := by
  refine ⟨fun i _ hi q => ⟨xs, xs[i], q, by simp [hi]⟩, fun _ q => ⟨xs, q, Nat.le_refl _⟩, fun i H v H' _ q y => ?_⟩
  obtain ⟨T, x, h1, h2, h3, h4⟩ := y
  exact ⟨T, .int (i : Nat), x, h1, h2, h3, rfl, h4 xs q⟩
end L2.Ent
namespace L2.Ent
open PySem PySem.Spec PyProof.Rows
theorem sqL_same {K : PySem.W.Frag} {H H' : Hp} {a : Addr} {xs : List V} (h : SqL K H a xs) (s : Same H H') : SqL K H' a xs := by
  rcases h with (h | ⟨o, h⟩) | h
  · exact .inl (.inl (s _ _ h))
  · exact .inl (.inr ⟨o, s _ _ h⟩)
  · exact .inr h
theorem sqT_same {K : PySem.W.Frag} {H H' : Hp} {a : Addr} {xs : List V} (h : SqT K H a xs) (s : Same H H') : SqT K H' a xs := by
  rcases h with (h | ⟨o, h⟩) | h
  · exact .inl (.inl (s _ _ h))
  · exact .inl (.inr ⟨o, s _ _ h⟩)
  · exact .inr h
/-- a for over enumerate(l), l a list or a tuple that stands since Hb -/
theorem for_enumS {K : PySem.W.Frag} {a : Addr} {xs : List V} {j : Nat} {g : TG} {tb : TS} {D : Ends} {σ : St} {Hb H : Hp} (hv : σ[j]? = some (some (V.ref a))) (hq : SqL K Hb a xs ∨ SqT K Hb a xs) (Pv : Nat → St → Hp → Prop) (h0 : Pv 0 σ H)
    (hS : ∀ i σ' H', Pv i σ' H' → Same Hb H')
    (hs : ∀ i x σ H H', i < xs.length → Pv i σ H → YPair (fun i => some (.int (i : Nat))) (fun i => xs[i]?) i H x H' → g x σ H' fun σ2 H2 => tb { D with nx := Pv (i + 1), ct := Pv (i + 1), bk := D.nx } σ2 H2) (hd : ∀ σ H, Pv xs.length σ H → D.nx σ H) :
    tFor (iEnumS K (tCons (tVar j) tNil)) g tb D σ H := by
  refine ⟨_, hv, a, xs, rfl, ?_⟩
  rcases hq with h | h
  · exact .inl ⟨sqL_same h (hS _ _ _ h0), for_it walk_enum Pv h0 (fun i σ' H' _ p => sqL_same h (hS _ _ _ p)) hs hd⟩
  · exact .inr ⟨sqT_same h (hS _ _ _ h0), for_it walk_enumT Pv h0 (fun i σ' H' _ p => sqT_same h (hS _ _ _ p)) hs hd⟩
end L2.Ent
/-! join within a comprehension's block. -/
namespace L2.Ent
open PySem PySem.Spec PyProof.Rows
def tJoinK (K : PySem.W.Frag) (to te : TE) : TE := tM1 (fun x xs H Q => ∃ a p, ∃ ys : List Str, x = .str a ∧ xs = [.ref p] ∧ (SqL K H p (ys.map V.str) ∨ SqT K H p (ys.map V.str)) ∧
      (ys.map (·.length)).sum + ys.length * a.length ≤ 16777216 ∧ Q (.str (Txt.join a ys)) H) to te
theorem pe_joinK {K : PySem.W.Frag} {X : Cx} {o e : Expr} {to te : TE} {apos pos : Pos} (hK : X.K = K) (ho : PE X o to) (he : PE X e te) (hs : starEach [e] X.env = [(false, eval e X.env)] := by rfl) (hbase : attributeBase o "join" X.env (eval o X.env) = eval o X.env := by rfl) (hline : (apos.endLine == pos.line) = true := by rfl) :
    PE X (.Call (.Attribute o "join" apos) [e] [] pos) (tJoinK K to te) := by
  subst hK
  exact pe_join ho he hs hbase hline
end L2.Ent
set_option maxHeartbeats 2000000
/-! C(e, ..) within a try: what its __init__ lets out is told of at the slots of the moment; isinstance of a caught error that has a dict. -/
namespace L2.Ev
open PySem PySem.Spec PyProof.Rows
section
variable {X : Cx} {k : Nat} {fI C : Addr} {fd : FuncData} {ps : List Str} {sp : Sp} {E : St → XK} {CY : CXT}
theorem made_at {pins : List (Addr × Obj)} {σ : St} {H : Hp} {s : Shared} {Q : VK} {zs : List Value} {vs : List V} (M : Mk X.K C fI)
    (F : FnOk X.prog X.w X.K X.mg X.base CY k fI fd ps sp) (hr : Room (k + 1) X.A) (hb : Binds X.K fd ps [])
    (hx : PassesAt CY X σ (E σ)) (I : Inv X pins σ H s) (r : Vals vs zs)
    (h : ∀ x dx, H x = none → H dx = none → dx ≠ x → sp (.ref x :: vs) (upd (upd H dx (.own x)) x (.ins C dx [])) (fun v H2 => v = .non ∧ Q (.ref x) H2) (E σ)) :
    wpAny (model X.prog X.w) X.A (call (.ref C) zs) (EP X pins σ Q) X.xe s := by
  generalize hn : s.heap.objs.size = n
  have J := Inv.made (C := C) I
  rw [hn] at J
  have hq := h (n + 1) n (I.hok.fresh (by rw [hn]; exact Nat.le_succ _)) (I.hok.fresh (by rw [hn]; exact Nat.le_refl _)) (Nat.ne_of_lt n.lt_succ_self)
  have rz : Vals (V.ref (n + 1) :: vs) (Value.ref (n + 1) :: zs) := .cons rfl r
  have hl : (Value.ref (n + 1) :: zs).length = ps.length := rz.length.symm.trans (F.len _ _ _ _ hq)
  have bb := hb _ (Value.ref (n + 1) :: zs) J.kIn (by rw [List.append_nil]; exact hl)
  rw [List.append_nil] at bb
  have run := F.run _ X.stack _ _ ⟨Value.ref (n + 1) :: zs, []⟩ _ _ _ (E σ) (hr.make C zs []) (J.env0.make C zs []) bb rz hq
  refine wpAny_call (make_map (f := fI) I.kIn M.makes M.init (beq_iff_eq.mp M.fn) ?_)
  rw [hn]
  refine codeAny_mono run fun fl s2 out => ?_
  match fl, out with
  | .error er, out => exact hx pins _ _ er s2 J out
  | .ok (.ret u), out =>
    obtain ⟨v, H3, J3, rv, e3, q3⟩ := J.after out
    subst e3
    exact ⟨rv, V.ref (n + 1), H3, J3, rfl, q3⟩
  | .ok .next, out => exact out.elim
  | .ok .brk, out => exact out.elim
  | .ok .cont, out => exact out.elim
def tMakeS (C : Addr) (sp : Sp) (E : St → XK) (t : TA) : TE := fun σ H Q => t σ H fun vs H1 => ∀ x dx, H1 x = none → H1 dx = none → dx ≠ x →
  sp (.ref x :: vs) (upd (upd H1 dx (.own x)) x (.ins C dx [])) (fun v H2 => v = .non ∧ Q (.ref x) H2) (E σ)
theorem pe_makeS {x : Str} {p pos : Pos} {e : Expr} {es : List Expr} {t : TA} (M : Mk X.K C fI) (F : FnOk X.prog X.w X.K X.mg X.base CY k fI fd ps sp) (hr : Room (k + 1) X.A) (hg : Gl X x) (hm : X.mg x = some (.ref C)) (hb : Binds X.K fd ps [])
    (hx : ∀ σ, PassesAt CY X σ (E σ)) (ha : PA X (e :: es) t) (hd : (x == ("__debug__" : Str)) = false := by decide)
    (he : starEach (e :: es) X.env = (false, eval e X.env) :: starEach es X.env := by rfl) (hp : (backTo pos (starEach es X.env)).any (·.1) = false := by rfl) :
    PE X (.Call (.Name x p) (e :: es) [] pos) (tMakeS C sp E t) :=
  ⟨fun pins s σ H Q I h => wpAny_Call_Name_kw (ld_glob I hg hm
    (PySem.W.callWith_K (h₀ := X.base) I.ok.mod.kin M.kp (thn (ha.run pos pins s σ H _ I h) fun us s1 ⟨vs, H1, I1, r, q⟩ => ⟨I1.kIn, made_at M F hr hb (hx σ) I1 r q⟩) he hp) hd)⟩
end
/-- isinstance(e, c), e the caught error at a, of the class at C, with a dict -/
def rIsD (K : PySem.W.Frag) (a : Addr) (cls : Value) (d : Option Addr) : List V → Hp → VK → Prop := fun xs H Q =>
  ∃ (C dd : Addr) (fs : List (Str × V)) (c : V) (u : Value) (b : Bool), xs = [.ref a, c] ∧ ClsV c u ∧ cls = .ref C ∧ d = some dd ∧ H dd = some (.xd fs) ∧ ExcC K C ∧ PySem.W.kitOne K (.ref C) u = some b ∧ Q (.bl b) H
theorem call_isD {X : Cx} {a : Addr} {oe : Obj} {cls : Value} {d : Option Addr} {pn : List (Addr × Obj)} (hz : Zc cls d oe) (hf : ∃ vs, oe.data = .fields vs) : CallR (X.suite a ((a, oe) :: pn)) (.builtin "isinstance") (rIsD X.K a cls d) := by
  intro pins s σ H xs us Q I r h
  obtain ⟨C, dd, fs, c, u, b, rfl, hc, rfl, rfl, ed, T, e, q⟩ := h
  obtain ⟨u1, u2, rfl, r1, r2⟩ := vals2 r
  cases (show u1 = Value.ref a from r1)
  cases hc.eq r2
  obtain ⟨ha, _⟩ := I.pin (a, oe) (List.mem_append_left _ List.mem_cons_self)
  obtain ⟨vs, hv⟩ := hf
  have hx : ObjOk X.prog X.w H s.heap dd (.xd fs) := I.hok dd _ ed
  obtain ⟨mA, hns, _⟩ := hx
  obtain ⟨od, ho, _⟩ := lookIn_ns hns
  have J : PySem.W.InstAt s.heap a oe C (some od) := ⟨ha, hz.1, (by unfold PySem.W.notCls; rw [hv]), (by rw [hz.2]; exact ho)⟩
  have hcl : (PySem.W.clsIn X.K C).isSome = true := by
    obtain ⟨cd, hcd, _⟩ := PySem.W.any_some T.hd
    rw [hcd]
    rfl
  exact PySem.W.kia_one (PySem.W.kitx_exc (od := some od) (ox := oe) hcl T.hg T.hk T.hs T.ha T.hn T.ht T.hm) I.kIn J e (fun z => nomatch z) fun tk => ⟨.bl b, H, I.tok tk, rfl, q⟩
end L2.Ev
namespace L2.Ev
open PySem PySem.Spec PyProof.Rows
/-- raise C(v), C's __init__ keeping its one field: a new error with a new dict -/
theorem raise_k {C : Addr} {f : Str} {v : V} {σ : St} {H : Hp} {Ex : XK} (h : ∀ dx H2, Same H H2 → H2 dx = some (.xd [(f, v)]) → Ex (.ref C) (some dx) H2) :
    tMkO C (sp_ini1 C f) [] (fun _ H QA => QA [v] H) σ H fun cls d H' => Ex cls d H' := by
  refine ⟨(by show 1 ≤ 1000; decide), fun ea hea => ⟨ea, v, rfl, upd_same, fun dx n ne => ⟨rfl, dx, [(f, v)], upd_same, by rw [upd_ne ne, upd_same], ?_, ?_⟩⟩⟩
  · rw [upd_ne ne] at n; exact n
  · have hdx : H dx = none := by rw [upd_ne ne] at n; exact n
    refine h dx _ (fun b o e => ?_) upd_same
    have nb1 : b ≠ dx := fun z => by rw [z, hdx] at e; cases e
    have nb2 : b ≠ ea := fun z => by rw [z, hea] at e; cases e
    rw [upd_ne nb1]
    unfold del
    rw [if_neg nb2, upd_ne nb2, upd_ne nb1, upd_ne nb2]
    exact e
end L2.Ev
set_option maxHeartbeats 2000000
/-! lists of texts beside one another; a choice between two readings that come to alike ends -/
namespace L2.Ev
open PySem PySem.Spec PyProof.Rows
theorem dp_strs {K : PySem.W.Frag} {H : Hp} {a : Addr} {ls : List Str} (h : SqL K H a (ls.map V.str)) : Dp K H (.ref a) (.list (ls.map PyData.str)) := by
  refine .lst h ?_
  clear h
  induction ls with
  | nil => exact .nil
  | cons x r ih => exact .cons (.str x) ih
theorem lay_strs {ls : List Str} (h : ∀ x ∈ ls, PyData.strOk x = true) : PyData.canLay0 (.list (ls.map PyData.str)) = true := by
  show PyData.canLayAll0 (ls.map PyData.str) = true
  induction ls with
  | nil => rfl
  | cons x r ih =>
    have i := ih fun y hy => h y (List.mem_cons_of_mem _ hy)
    have hx := h x List.mem_cons_self
    simp only [List.map_cons, PyData.canLayAll0, PyData.canLay0, i, Bool.and_true]
    exact hx
theorem shaped_strs {ls : List Str} (h : ∀ x ∈ ls, PyData.strOk x = true) : SeqAt.shaped (.list (ls.map PyData.str)) = true := by
  refine Bool.and_eq_true_iff.mpr ⟨lay_strs h, decide_eq_true ?_⟩
  have z : PyData.depthAll (ls.map PyData.str) ≤ 60 := by
    clear h
    induction ls with
    | nil => simp [PyData.depthAll]
    | cons x r ih =>
      simp only [List.map_cons, PyData.depthAll, PyData.depth]
      omega
  simp only [PyData.depth]
  omega
theorem eqv_strs {ls : List Str} (h : ∀ x ∈ ls, PyData.strOk x = true) : PyData.eqv (.list (ls.map PyData.str)) (.list (ls.map PyData.str)) = true := SeqAt.eqv_refl _ (lay_strs h)
/-- a list of texts beside an equal one -/
theorem ne_strs {K : PySem.W.Frag} {H : Hp} {a b : Addr} {ls : List Str} {Q : VK} (ha : SqL K H a (ls.map V.str)) (hb : SqL K H b (ls.map V.str)) (hs : ∀ x ∈ ls, PyData.strOk x = true) (q : Q (.bl false) H) : rNeD K (.ref a) (.ref b) H Q :=
  ⟨_, _, dp_strs ha, dp_strs hb, shaped_strs hs, shaped_strs hs, by rw [eqv_strs hs]; exact q⟩
theorem strOk_cat {x y : Str} (hx : PyData.strOk x = true) (hy : PyData.strOk y = true) : PyData.strOk (x ++ y) = true := by
  unfold PyData.strOk at hx hy ⊢
  rw [← Array.all_toList] at hx hy ⊢
  rw [Str.cps_append, Array.toList_append, List.all_append, hx, hy]; rfl
theorem tif_two {b : Bool} {ta tb : TE} {σ : St} {H : Hp} {Q : VK} (good : V → Hp → Prop) (h1 : b = true → ∀ R : VK, (∀ v H', good v H' → R v H') → ta σ H R) (h2 : b = false → ∀ R : VK, (∀ v H', good v H' → R v H') → tb σ H R)
    (k : ∀ v H', good v H' → Q v H') : if b = true then ta σ H Q else tb σ H Q := by
  cases b with
  | true => exact iteT (h1 rfl Q k)
  | false => exact iteF (h2 rfl Q k)
theorem But.skip {p h : Addr} {H H1 H2 : Hp} (a : But p H H1) (n : H h = none) (b : But h H1 H2) : But p H H2 := fun c o hc e => b c o (fun z => by rw [z, n] at e; cases e) (a c o hc e)
theorem Pen.but {H H' : Hp} {p c h : Addr} {ns : List Int} {n : Nat} (q : Pen H p c ns n) (b : But h H H') (n1 : h ≠ p) (n2 : h ≠ c) : Pen H' p c ns n :=
  ⟨let ⟨t, l, e, z⟩ := q.d; ⟨t, l, b _ _ (Ne.symm n1) e, z⟩, b _ _ (Ne.symm n2) q.cells, q.len⟩
theorem Pen.pre {H : Hp} {p c : Addr} {ns : List Int} {n : Nat} (q : Pen H p c ns n) : ∃ o, H p = some (.dK o) := let ⟨t, l, e, _⟩ := q.d; ⟨_, e⟩
end L2.Ev
namespace L2.Ev
open PySem PySem.Spec PyProof.Rows
/-- [x for x in d], d a frozen dict -/
theorem lc_keys {d D : Addr} {o : Obj} {kvs : List (Key × V)} {σ : St} {H1 : Hp} {Qd : Hp → Prop} {j : Nat} (hD : H1 D = none) (hd : H1 d = some (.frz o (.dK kvs))) (hj : j < σ.length) (hn : kvs.length < sizeLine)
    (k : ∀ H2, Same H1 H2 → H2 D = some (.lst (kvs.map fun p => kV p.1)) → Qd H2) :
    ∃ W : Nat → Nat → Hp → Prop, (∃ m, W 0 m (L2.upd H1 D (.lst []))) ∧ ∀ i m H, W i m H → ((Itk d o kvs).stop i H ∧ Qd H) ∨ ((Itk d o kvs).go i H ∧ ∃ Nx : Hp → Prop, (∀ H', Nx H' → ∃ m', m' < m ∧ W (i + 1) m' H') ∧
      ∀ x H', (Itk d o kvs).yld i H x H' → gName j x (wipe σ [j]) H' fun σ2 H2 => wipe σ2 [j] = wipe σ [j] ∧ tYes σ2 H2 fun b H3 =>
        if b = true then tVar j σ2 H3 fun y H4 => ∃ acc, H4 D = some (.lst acc) ∧ acc.length < sizeLine ∧ Nx (L2.upd H4 D (.lst (acc ++ [y]))) else Nx H3) := by
  refine lc_grow (n := kvs.length) hD (fun i acc H' => acc = (kvs.take i).map fun p => kV p.1) (fun i acc H' o hp _ => hp) (fun _ _ => rfl) (fun i H hi s => ⟨s _ _ hd, hi⟩) (fun H s => ⟨s _ _ hd, Nat.le_refl _⟩) hn (fun i acc H F G hF hG hi s1 ha hp x H' yl => ?_) (fun acc H' s1 ha hp => ?_)
  · obtain ⟨rfl, k1, v1, e1, rfl⟩ := yl
    refine ⟨wipe1 σ j _, ?_⟩
    refine ⟨kV k1, wiped σ j _ hj, hF _ _ (Same.refl _) ?_⟩
    rw [hp, List.take_add_one, e1, List.map_append]; rfl
  · rw [List.take_length] at hp
    subst hp
    exact k H' s1 ha
end L2.Ev
namespace L2.Ev
open PySem PySem.Spec PyProof.Rows
/-- e.f within a comprehension -/
theorem pe_fldK {K : PySem.W.Frag} {X : Cx} {e : Expr} {ta : TE} {f : Str} {pos : Pos} (hK : X.K = K) (he : PE X e ta) (hb : attributeBase e f X.env (eval e X.env) = eval e X.env) : PE X (.Attribute e f pos) (tFld K ta f) := by
  subst hK
  exact pe_fld he hb
end L2.Ev
set_option maxHeartbeats 2000000
/-! Sets of the ints of a list: set(xs), x not in s, len(set(xs)). -/
namespace L2.Seti
open PySem PySem.Spec PyProof.Rows L2.Ev
/-- the unlike ones among the first i, in the order of their first places -/
def dist (ns : List Int) : List Int := firstMet (fun i => ns.getD i 0) ns.length
theorem range_getD (ns : List Int) : (List.range ns.length).map (fun i => ns.getD i 0) = ns := by
  apply List.ext_getElem (by simp)
  intro i h1 h2
  simp [List.getD_eq_getElem?_getD, List.getElem?_eq_getElem h2]
theorem dist_any (ns : List Int) (k : Int) : (dist ns).any (· == k) = decide (k ∈ ns) := by
  unfold dist
  rw [firstMet_any, range_getD, Bool.eq_iff_iff, List.any_eq_true, decide_eq_true_iff]
  exact ⟨fun ⟨x, h, e⟩ => by rw [← beq_iff_eq.mp e]; exact h, fun h => ⟨k, h, beq_self_eq_true k⟩⟩
theorem dist_le (ns : List Int) : (dist ns).length ≤ ns.length := firstMet_length_le _ _
theorem fold_len {ns : List Int} : ∀ (acc : List Int), (ns.foldl step_dedup acc).length = acc.length + ns.length → ns.Nodup ∧ ∀ k ∈ ns, k ∉ acc := by
  induction ns with
  | nil => intro acc _; exact ⟨List.nodup_nil, fun k h => absurd h List.not_mem_nil⟩
  | cons a r ih =>
    intro acc h
    rw [List.foldl_cons] at h
    have le := length_foldl_step_dedup_le r (step_dedup acc a)
    have hs : (step_dedup acc a).length ≤ acc.length + 1 := by unfold step_dedup; split <;> simp
    have e1 : (step_dedup acc a).length = acc.length + 1 := by simp only [List.length_cons] at h; omega
    have na : a ∉ acc := fun m => by
      unfold step_dedup at e1
      rw [if_pos (by simpa using m)] at e1
      omega
    have ee : step_dedup acc a = acc ++ [a] := by
      unfold step_dedup
      rw [if_neg (by simpa using na)]
    rw [ee] at h
    obtain ⟨h1, h2⟩ := ih (acc ++ [a]) (by rw [h]; simp; omega)
    refine ⟨List.nodup_cons.mpr ⟨fun m => h2 a m (by simp), h1⟩, fun k hk => ?_⟩
    rcases List.mem_cons.mp hk with rfl | hk
    · exact na
    · exact fun m => h2 k hk (List.mem_append_left _ m)
theorem dist_len (ns : List Int) : (dist ns).length = ns.length ↔ ns.Nodup := by
  refine ⟨fun h => ?_, fun h => ?_⟩
  · have z : ((List.range ns.length).map fun i => ns.getD i 0).foldl step_dedup [] = dist ns := rfl
    rw [range_getD] at z
    rw [← z] at h
    exact (fold_len [] (by simpa using h)).1
  · unfold dist
    rw [L2.firstMet_nodup ns h ns.length (Nat.le_refl _), List.take_length]
/-- the set of ints at a -/
def SetI (P : Program) (w : World) (a : Addr) (S : Int → Bool) : HO := .ext fun h => ∃ n, h.SetOf (intKind P w) a S n
section
variable {X : Cx}
theorem setI_ok {w : World} {P : Program} {H : Hp} {h : Heap} {a : Addr} {S : Int → Bool} {n : Nat} (R : h.SetOf (intKind P w) a S n) : ObjOk P w H h a (SetI P w a S) := by
  have there : ∃ o, h.get? a = some o := let ⟨o, _, _, _, e, _⟩ := R; ⟨o, e⟩
  exact ⟨⟨n, R⟩, there, fun h1 h2 z k => let ⟨m, o, es, ep, t, e, r⟩ := z; ⟨m, o, es, ep, t, k o e, r⟩⟩
/-- set(xs), xs a list of ints -/
def rSetI (K : PySem.W.Frag) (P : Program) (w : World) : List V → Hp → VK → Prop := fun xs H Q => ∃ (l : Addr) (ns : List Int), xs = [.ref l] ∧ SqL K H l (ns.map V.int) ∧ ns.length + 1 < scanBound ∧
  ∀ p H', H p = none → Same H H' → H' p = some (SetI P w p fun k => decide (k ∈ ns)) → Q (.ref p) H'
theorem set_ofI (hc : X.calm = true := by rfl) : CallR X (.type "set") (rSetI X.K X.prog X.w) := by
  intro pins s σ H xs us Q I r h
  obtain ⟨l, ns, rfl, hl, room, q⟩ := h
  obtain ⟨u, rfl, ru⟩ := vals1 r
  cases (show u = Value.ref l from ru)
  obtain ⟨its, rv, pl, _⟩ := I.list hl
  have sz : its.toArray.size = ns.length := by rw [List.size_toArray, ← rv.length, List.length_map]
  refine call_set_list (I.ok.hd hc) pl.isList (ns := ns) (by simpa using rv.ints) (by rw [sz]; exact room) fun h' tk hS hk => ?_
  rw [sz] at hS
  have e : (fun k' => (firstMet (fun i => ns.getD i 0) ns.length).any (· == k')) = fun k => decide (k ∈ ns) := funext fun k => dist_any ns k
  rw [e] at hS
  have n : H s.heap.objs.size = none := I.hok.fresh (Nat.le_refl _)
  exact ⟨.ref s.heap.objs.size, upd H s.heap.objs.size (SetI X.prog X.w s.heap.objs.size fun k => decide (k ∈ ns)), I.laid (t' := tk) (fun b o e => hk b o (Heap.lt_size e) e) (Nat.le_refl _) (setI_ok hS), rfl,
    q _ _ n (Same.new (Same.refl H) n) upd_same⟩
/-- x not in s, x in s -/
def rInI (P : Program) (w : World) (neg : Bool) : R2 := fun x y H Q => ∃ k a S, x = V.int k ∧ y = V.ref a ∧ H a = some (SetI P w a S) ∧ Q (.bl (if neg then !S k else S k)) H
theorem op_notInI : OpR X (compareOp .NotIn) (rInI X.prog X.w true) := by
  intro pins s σ H x y v u Q I rx ry h
  obtain ⟨k, a, S, rfl, rfl, ha, q⟩ := h
  obtain ⟨tk, rfl⟩ := rx
  cases ry
  obtain ⟨n, R⟩ := (show ∃ n, s.heap.SetOf (intKind X.prog X.w) a S n from (I.hok a _ ha).1)
  exact wpAny_notInSet_of (intKind_is _ _ _ _) rfl R ⟨.bl (!S k), H, I.tok _, rfl, q⟩
/-- len(set(xs)), xs a list of ints -/
def tLenSetN (K : PySem.W.Frag) (ta : TE) : TE := fun σ H Q => ta σ H fun x H1 => ∃ (l : Addr) (ns : List Int), x = V.ref l ∧ SqL K H1 l (ns.map V.int) ∧ ns.length + 1 < scanBound ∧ Q (.int (dist ns).length) H1
theorem pe_lenSetN {a : Expr} {ta : TE} {p p2 q pos : Pos} (hc : X.calm = true) (hg : Gl X "len") (hm : X.mg "len" = none) (hg2 : Gl X "set") (hm2 : X.mg "set" = none) (ha : PE X a ta)
    (na : starEach [a] X.env = (false, eval a X.env) :: starEach [] X.env := by rfl) : PE X (.Call (.Name "len" p) [.Call (.Name "set" p2) [a] [] q] [] pos) (tLenSetN X.K ta) := by
  refine ⟨fun pins s σ H Q I h => Call_ (ld_blt I hg hm PySem.boot_len (callWith_builtin1 (args_cons ?_ rfl) rfl rfl))⟩
  refine Call_ (ld_blt I hg2 hm2 boot_set (callWith_type1 (args_cons (thn (ha.run pins s σ H _ I h) fun v s1 ⟨x, H1, I1, r1, l, ns, ex, hq, room, q1⟩ => args_nil ?_) na) na rfl))
  subst ex
  cases (show v = Value.ref l from r1)
  obtain ⟨its, r, pl, hz⟩ := I1.list hq
  have sz : its.toArray.size = ns.length := by rw [List.size_toArray, ← r.length, List.length_map]
  refine call_set_list (I1.ok.hd hc) pl.isList (ns := ns) (by simpa using r.ints) (by rw [sz]; exact room) fun h' tk hS hk => args_nil ?_
  rw [sz] at hS
  obtain ⟨o, es, ep, t, ho, hex, hd, _, _, _, hf, hn⟩ := hS
  have I2 : Inv X pins σ H1 { s1 with heap := h', toks := tk } := I1.kept fun b o e => hk b o (Heap.lt_size e) e
  have le := dist_le ns
  have hsm : es.size < scanBound := by rw [hn]; unfold dist at le; omega
  exact call_len_set ho hex hd hf (by unfold scanBound at hsm; omega) ⟨.int (dist ns).length, H1, I2.tok _, ⟨_, by rw [hn]; rfl⟩, q1⟩
end
end L2.Seti
set_option maxHeartbeats 2000000
/-! Tuples of which the whole object is known to have no dict: made by tuple(xs), asked by a method. -/
namespace L2.Tpd
open PySem PySem.Spec PyProof.Rows L2.Ev
def TupN (H : Hp) (q : Addr) (xs : List V) : Prop := ∃ o : Obj, H q = some (.frz o (.tup xs)) ∧ o.dict = none
theorem TupN.sq {K : PySem.W.Frag} {H : Hp} {q : Addr} {xs : List V} (h : TupN H q xs) : SqT K H q xs := let ⟨o, e, _⟩ := h; .inl (.inr ⟨o, e⟩)
theorem TupN.keep {H H' : Hp} {q : Addr} {xs : List V} (h : TupN H q xs) (k : ∀ q o xs, H q = some (.frz o (.tup xs)) → H' q = some (.frz o (.tup xs))) : TupN H' q xs := let ⟨o, e, d⟩ := h; ⟨o, k _ _ _ e, d⟩
theorem TupN.same {H H' : Hp} {q : Addr} {xs : List V} (h : TupN H q xs) (s : Same H H') : TupN H' q xs := let ⟨o, e, d⟩ := h; ⟨o, s _ _ e, d⟩
section
variable {X : Cx}
/-- tuple(xs), xs a list -/
def rTupN (K : PySem.W.Frag) : List V → Hp → VK → Prop := fun xs H Q => ∃ p ys, xs = [.ref p] ∧ SqL K H p ys ∧ ∀ l H', H l = none → Same H H' → TupN H' l ys → Q (.ref l) H'
theorem tup_ofN : CallR X (.type "tuple") (rTupN X.K) := by
  intro pins s σ H xs us Q I r h
  obtain ⟨p, ys, rfl, hq, q⟩ := h
  obtain ⟨u, rfl, rx⟩ := vals1 r
  cases rx
  obtain ⟨its, rv, pl, hz⟩ := I.list hq
  refine call_tuple_list pl.isList (fun h' kp => ?_) (by have z := rv.length; simp only [List.size_toArray]; omega)
  generalize ho : ({ cls := .type "tuple", data := .seq its.toArray } : Obj) = ob
  have J : Inv X pins σ H { s with heap := h' } := I.kept (t' := s.toks) kp
  have n : H h'.objs.size = none := J.hok.fresh (Nat.le_refl _)
  have I2 : Inv X pins σ (upd H h'.objs.size (.frz ob (.tup ys))) { s with heap := h'.push ob } :=
    J.laid (t' := s.toks) (fun b o e => Heap.get?_push_of_some _ e) (Nat.le_refl _) ⟨by rw [← ho]; exact Heap.get?_push_size _ rfl, hz, its, rv, by rw [← ho]; exact IsTup.new _ _⟩
  exact ⟨.ref h'.objs.size, _, I2, rfl, q _ _ n (Same.new (Same.refl H) n) ⟨ob, upd_same, by rw [← ho]⟩⟩
/-- t.m(e, ..), t such a tuple -/
def tBMT (r : V → List V → Hp → VK → Prop) (to : TE) (t : TA) : TE := fun σ H Q => to σ H fun x H1 => (∃ p xs, x = .ref p ∧ TupN H1 p xs) ∧ t σ H1 fun xs H2 => r x xs H2 Q
theorem pe_bmT {o e : Expr} {es : List Expr} {to : TE} {t : TA} {name : Str} {apos cpos : Pos} {id : String} {r : V → List V → Hp → VK → Prop} (pa : PlainAttrs "tuple") (slot : Slot "tuple" name id) (hty : typeOf (.builtin id) = pure (.type "method_descriptor")) (hm : MtR X id r)
    (ho : PE X o to) (ha : PA X (e :: es) t) (hbase : attributeBase o name X.env (eval o X.env) = eval o X.env := by rfl)
    (hfew : ((backTo cpos (starEach (e :: es) X.env)).all (fun x => !x.1) && (backToKw cpos (keywordEach [] X.env)).all (fun x => x.1.isSome) && decide ((e :: es).length + ([] : List Keyword).length + (if ([] : List Keyword).isEmpty then 0 else 1) < 30)) = true := by rfl)
    (hline : (apos.endLine == cpos.line) = true := by rfl) (hs : starEach (e :: es) X.env = (false, eval e X.env) :: starEach es X.env := by rfl) (hplain : (backTo cpos (starEach es X.env)).any (·.1) = false := by rfl) :
    PE X (.Call (.Attribute o name apos) (e :: es) [] cpos) (tBMT r to t) := by
  refine ⟨fun pins s σ H Q I h => wpAny_Call_method_late hbase hfew hline rfl (thn (ho.run pins s σ H _ I h) fun v s1 ⟨x, H1, J, rx, ⟨p, xs, ex, ob, e1, e2⟩, q1⟩ => ?_)⟩
  subst ex
  cases (show v = Value.ref p from rx)
  have k : ObjOk X.prog X.w H1 s1.heap p (.frz ob (.tup xs)) := J.hok _ _ e1
  obtain ⟨hget, _, its, _, o2, ho2, hc, _⟩ := k
  have eo : o2 = ob := Option.some.inj (ho2.symm.trans hget)
  subst eo
  refine ⟨"tuple", id, pa, slot, hty, ⟨o2, hget, hc⟩, fun a z => ?_, ?_⟩
  · cases z; exact ⟨o2, hget, e2⟩
  · have hA := ha.run cpos pins s1 σ H1 _ J q1
    rw [hs] at hA ⊢
    refine Calls.callWith_builtin (by show (false || (backTo cpos (starEach es X.env)).any (·.1)) = false; rw [hplain]; rfl) (Calls.evalArgs_plain (thn hA fun us s2 ⟨vs, H2, I2, r2, q2⟩ => ?_))
    exact hm pins s2 σ H2 (.ref p) vs (.ref p) us Q I2 rfl r2 q2
end
end L2.Tpd
set_option maxHeartbeats 2000000
/-! lists of ints beside one another -/
namespace L2.Ev
open PySem PySem.Spec PyProof.Rows
theorem dp_ints {K : PySem.W.Frag} {H : Hp} {a : Addr} {ns : List Int} (h : SqL K H a (ns.map V.int)) : Dp K H (.ref a) (.list (ns.map PyData.int)) := by
  refine .lst h ?_
  clear h
  induction ns with
  | nil => exact .nil
  | cons x r ih => exact .cons (.int x) ih
theorem lay_ints (ns : List Int) : PyData.canLay0 (.list (ns.map PyData.int)) = true := by
  show PyData.canLayAll0 (ns.map PyData.int) = true
  induction ns with
  | nil => rfl
  | cons x r ih =>
    simp only [List.map_cons, PyData.canLayAll0, PyData.canLay0, ih, Bool.and_true]
theorem shaped_ints (ns : List Int) : SeqAt.shaped (.list (ns.map PyData.int)) = true := by
  refine Bool.and_eq_true_iff.mpr ⟨lay_ints ns, decide_eq_true ?_⟩
  have z : PyData.depthAll (ns.map PyData.int) ≤ 60 := by
    induction ns with
    | nil => simp [PyData.depthAll]
    | cons x r ih =>
      simp only [List.map_cons, PyData.depthAll, PyData.depth]
      omega
  simp only [PyData.depth]
  omega
theorem eqvAll_ints : ∀ (ns ms : List Int), PyData.eqvAll (ns.map PyData.int) (ms.map PyData.int) = decide (ns = ms)
  | [], [] => by simp [PyData.eqvAll]
  | [], _ :: _ => by simp [PyData.eqvAll]
  | _ :: _, [] => by simp [PyData.eqvAll]
  | n :: r, m :: s => by
    have i := eqvAll_ints r s
    simp only [List.map_cons, PyData.eqvAll, i]
    have e : PyData.eqv (.int n) (.int m) = decide (n = m) := by
      rw [Bool.eq_iff_iff]
      simp [PyData.eqv]
    rw [e]
    by_cases h : n = m
    · subst h
      by_cases h2 : r = s
      · subst h2; simp
      · simp [h2]
    · simp [h]
theorem eqv_ints (ns ms : List Int) : PyData.eqv (.list (ns.map PyData.int)) (.list (ms.map PyData.int)) = decide (ns = ms) := by
  have e : PyData.eqv (.list (ns.map PyData.int)) (.list (ms.map PyData.int)) = PyData.eqvAll (ns.map PyData.int) (ms.map PyData.int) := by simp [PyData.eqv]
  rw [e, eqvAll_ints]
/-- the only sorted one of its kind -/
theorem sorted_eq {ns ms : List Int} (hp : ms.Perm ns) (hs : ms.Pairwise (· ≤ ·)) : decide (ns = ms) = decide (ns.Pairwise (· ≤ ·)) := by
  by_cases h : ns.Pairwise (· ≤ ·)
  · rw [decide_eq_true h, decide_eq_true]
    exact (hp.symm).eq_of_pairwise (fun a b _ _ h1 h2 => Int.le_antisymm h1 h2) h hs
  · rw [decide_eq_false h, decide_eq_false]
    exact fun e => h (e ▸ hs)
end L2.Ev
set_option maxHeartbeats 2000000
/-! sorted of a list of tuples of ints, all of one width: a new list of the same tuples in some order. -/
namespace L2.Srw
open PySem PySem.Spec PyProof.Rows TS
section
variable {prog : Program} {w : World} {A : Around} {s : Shared}
theorem lexT {b : Bool} {xs : List Value} {ns : List Int} (hx : IntsAre xs ns) : ∀ {ys : List Value} {ms : List Int}, IntsAre ys ms → ns.length = ms.length →
    ∃ r : Bool, ∀ (i : Nat) (Q : Bool → Shared → Prop), Q r s → PySem.W.KatLex prog w A b false Q (xs.zip ys) i s := by
  induction hx with
  | nil =>
    intro ys ms hy hl
    cases hy with
    | nil => exact ⟨false, fun i Q h => PySem.W.kat_nil h⟩
    | cons q u hy => simp at hl
  | @cons p t xs ns hx ih =>
    intro ys ms hy hl
    cases hy with
    | nil => simp at hl
    | @cons q u ys ms hy =>
      obtain ⟨r, hr⟩ := ih hy (by simpa using hl)
      by_cases e : p = q
      · refine ⟨r, fun i Q h => ?_⟩
        show PySem.W.KatLex prog w A b false Q ((Value.int p t, Value.int q u) :: xs.zip ys) i s
        refine PySem.W.kat_cons (wpAny_eqBool_int ?_)
        rw [show (p == q) = true from beq_iff_eq.mpr e]
        exact PySem.W.kat_yes (hr _ _ h)
      · refine ⟨decide (p < q), fun i Q h => ?_⟩
        show PySem.W.KatLex prog w A b false Q ((Value.int p t, Value.int q u) :: xs.zip ys) i s
        refine PySem.W.kat_cons (wpAny_eqBool_int ?_)
        rw [show (p == q) = false from beq_eq_false_iff_ne.mpr e]
        exact PySem.W.kat_no (oneLt_ints _ h)
/-- tuples of d ints -/
def Wide (h : Heap) (d : Nat) (vs : List Value) : Prop := ∀ v, v ∈ vs → ∃ ns, TupInts h v ns ∧ ns.length = d
theorem firstsW {h : Heap} {d : Nat} (hd : 1 ≤ d) : ∀ vs : List Value, Wide h d vs → ∃ fs, PySem.W.KatTups h vs fs ∧ fs.length = vs.length ∧ ∀ f, f ∈ fs → ∃ n t, f = Value.int n t
  | [], _ => ⟨[], PySem.W.KatTups.nil, rfl, fun f hf => by simp at hf⟩
  | v :: vs, x => by
    obtain ⟨fs, k, hl, hi⟩ := firstsW hd vs fun u hu => x u (List.mem_cons_of_mem _ hu)
    obtain ⟨ns, ⟨a, xs, rfl, ⟨o, ho, hc, n, hdt⟩, i⟩, hn⟩ := x v List.mem_cons_self
    obtain ⟨y, ys, e⟩ : ∃ y ys, xs.toList = y :: ys := by
      cases q : xs.toList with
      | nil =>
        have l := i.length
        rw [q, List.length_nil] at l
        omega
      | cons y ys => exact ⟨y, ys, rfl⟩
    obtain ⟨m, t, hy⟩ := i.all y (by rw [e]; exact List.mem_cons_self)
    refine ⟨y :: fs, PySem.W.KatTups.cons ho hc hdt ?_ k, by rw [List.length_cons, List.length_cons, hl], fun f hf => ?_⟩
    · have z := congrArg (fun l : List Value => l[0]?) e
      simpa using z
    · rcases List.mem_cons.mp hf with rfl | hf
      · exact ⟨m, t, hy⟩
      · exact hi f hf
theorem wide_sortable {d : Nat} {a : Addr} {vs : List Value} (hd : 1 ≤ d) (h2 : 2 ≤ vs.length) (x : Wide s.heap d vs) (ha : ∀ o, s.heap.get? a = some o → o.cls ≠ .type "tuple") : Srt.Sortable prog w A s a vs := by
  intro h' keep
  have x' : Wide h' d vs := fun v hv => by
    obtain ⟨ns, t, l⟩ := x v hv
    exact ⟨ns, t.keeps fun b o e c => keep b o (fun z => by subst z; exact ha o e c) e, l⟩
  obtain ⟨fs, k, hl, hi⟩ := firstsW hd vs x'
  refine ⟨tuples' true, fun Q E hq => ?_, fun p q hp hq => ?_⟩
  · refine PySem.W.kat_kind (T := .type "int") k (by omega) (fun f hf => ?_) (by rfl) ?_
    · obtain ⟨n, t, rfl⟩ := hi f hf
      exact PySem.W.Looks.now
    · have e : (Value.type "int" != Value.type "tuple") = true := by first | decide +kernel | rfl | decide
      rw [e]
      exact hq
  · obtain ⟨ns, ⟨b, xs, e1, ⟨o, ho, hc, n, hdt⟩, i⟩, lp⟩ := x' _ hp
    obtain ⟨ms, ⟨b', ys, e2, ⟨o', ho', hc', n', hdt'⟩, i'⟩, lq⟩ := x' _ hq
    rw [e1, e2]
    obtain ⟨r, hr⟩ := lexT (prog := prog) (w := w) (A := A) (s := { s with heap := h' }) (b := true) i i' (by omega)
    refine ⟨r, PySem.W.kat_lt ho hdt ho' hdt' ?_⟩
    have sz : decide (xs.size < ys.size) = false := by
      have l1 := i.length
      have l2 := i'.length
      rw [Array.length_toList] at l1 l2
      exact decide_eq_false (by omega)
    rw [sz]
    exact hr 0 _ ⟨rfl, rfl⟩
end
/-- sorted(l), l a list of int tuples of one width -/
def rSortW (K : PySem.W.Frag) : List V → Hp → VK → Prop := fun vs H Q => ∃ (a : Addr) (xs : List V) (d : Nat), vs = [V.ref a] ∧ SqL K H a xs ∧ 1 ≤ d ∧ (∀ x ∈ xs, ∃ ns, TupI K H x ns ∧ ns.length = d) ∧
  ∀ ys p, ys.Perm xs → H p = none → Q (.ref p) (upd H p (.lst ys))
theorem sorted_rows {X : Cx} {K : PySem.W.Frag} (hK : X.K = K := by rfl) : CallR X (.builtin "sorted") (rSortW K) := by
  subst hK
  intro pins s σ H vs us Q I r h
  obtain ⟨a, xs, d, rfl, hs, hd, hx, q⟩ := h
  obtain ⟨its, rv, hl, hz⟩ := I.list hs
  rw [Vals.ref1 r]
  obtain ⟨e1, e2⟩ := refs_back rv fun x m => by
    obtain ⟨ns, ⟨t, e, _⟩, _⟩ := hx x m
    exact ⟨t, e⟩
  have wd : Wide s.heap d its := fun v hv => by
    obtain ⟨t, rfl⟩ := e2 v hv
    have hm : V.ref t ∈ xs := by rw [e1]; exact List.mem_map.mpr ⟨_, hv, rfl⟩
    obtain ⟨ns, ⟨t', e, ht⟩, hn⟩ := hx _ hm
    cases e
    exact ⟨ns, tupI_raw I ht, hn⟩
  refine Srt.sorted_any hl.isList (by rw [← rv.length]; exact hz) (fun h2 h₁ b hb k => ?_) fun out hp => ?_
  · refine wide_sortable (s := { s with heap := h₁ }) hd h2 (fun v hv => ?_) fun o e => ?_
    · obtain ⟨ns, t, l⟩ := wd v hv
      exact ⟨ns, t.keeps fun b o e _ => (k b o e).2, l⟩
    · have e' : some o = some (seqObj "list" its.toArray 0) := e.symm.trans hb
      cases e'
      intro c
      exact absurd (Value.type.inj c) (by decide)
  · have h3 : ∀ u ∈ out, ∃ a, u = Value.ref a := fun u hu => e2 u (hp.mem_iff.mp hu)
    obtain ⟨ep, he⟩ := sortedAll_at s.heap its out.toArray
    refine ⟨.ref _, upd H (s.heap.objs.size + 1) (.lst (out.map backV)), I.laid (t' := s.toks) (fun _ _ => sortedAll_old) (Nat.le_succ _) ⟨?_, out, ep, vals_back h3, he⟩, rfl, q _ _ ?_ (I.hok.fresh (Nat.le_succ _))⟩
    · rw [List.length_map, hp.length_eq, ← rv.length]; exact hz
    · rw [e1]; exact hp.map backV
end L2.Srw
set_option maxHeartbeats 4000000
/-! tuple * int with the int 0 or 1 also: times one is the same tuple, times naught a new empty one. -/
namespace L2.Tpm
open PySem PySem.Spec PyProof.Rows
theorem mul_one (l : Addr) (items : Array Value) (n : Nat) (dd : Option Addr) (sl : Array (Option Value)) (u : Tok) (c2 : items.isEmpty = false) :
    Meets (Builtin.«tuple.__mul__» ⟨[.ref l, .int 1 u], []⟩) (fun _ R s => s.heap.get? l = some { cls := .type "tuple", dict := dd, data := .seq items n, slots := sl } ∧ R (.ok (.ret (Value.ref l))) s) :=
  .of_wp fun prog w A R s h => by
    obtain ⟨hp, g, d, tk, os⟩ := s
    obtain ⟨hl, h⟩ := h
    have f1 := AutoSeq1.idx_int
    have c1 : (items.isEmpty || (1 : Int) == 1) = true := by rw [c2]; rfl
    wp_walk using wpAny_loadPart' hl
    repeat (first
      | (refine wpAny_ite_true (decide_eq_true c1) ?_; wp_walk using wpAny_loadPart' hl)
      | (refine wpAny_ite_true c1 ?_; wp_walk using wpAny_loadPart' hl))
    exact ⟨_, rfl, h⟩
theorem mul_none (l : Addr) (items : Array Value) (n : Nat) (dd : Option Addr) (sl : Array (Option Value)) (u : Tok) (c2 : items.isEmpty = false) :
    Meets (Builtin.«tuple.__mul__» ⟨[.ref l, .int 0 u], []⟩) (fun _ R s => s.heap.get? l = some { cls := .type "tuple", dict := dd, data := .seq items n, slots := sl } ∧
      R (.ok (.ret (Value.ref s.heap.objs.size))) { s with heap := s.heap.push { cls := Value.type "tuple", data := Data.seq #[] }, toks := s.toks }) :=
  .of_wp fun prog w A R s h => by
    obtain ⟨hp, g, d, tk, os⟩ := s
    obtain ⟨hl, h⟩ := h
    have f1 := AutoSeq1.idx_int
    have c1 : (items.isEmpty || (0 : Int) == 1) = false := by rw [c2]; rfl
    wp_walk using wpAny_loadPart' hl
    repeat (first
      | (refine wpAny_ite_false (decide_eq_false (by rw [c1]; exact Bool.false_ne_true)) ?_; wp_walk using wpAny_loadPart' hl))
    exact ⟨_, rfl, h⟩
/-- tuple * int, from naught on: times one the same tuple, else a new one -/
def rRepA (K : PySem.W.Frag) : R2 := fun x y H Q => ∃ l k xs, x = .ref l ∧ y = .int k ∧ SqT K H l xs ∧ xs ≠ [] ∧ 0 ≤ k ∧ k ≤ 1000 ∧ xs.length ≤ 1000 ∧ (k = 1 → Q (.ref l) H) ∧ (k ≠ 1 → ∀ p, H p = none → Q (.ref p) (upd H p (.tup (List.replicate k.toNat xs).flatten)))
section
variable {X : Cx}
theorem op_repA {K : PySem.W.Frag} (hK : X.K = K := by rfl) : OpR X (binaryOp .Mult) (rRepA K) := by
  subst hK
  intro pins s σ H x y v u Q I rx ry h
  obtain ⟨l, k, xs, rfl, rfl, hT, hne, h0, h1, hz, q1, q2⟩ := h
  by_cases k2 : 2 ≤ k
  · exact op_repT pins s σ H _ _ v u Q I rx ry ⟨l, k, xs, rfl, rfl, hT, hne, k2, h1, hz, q2 (by omega)⟩
  cases rx
  obtain ⟨t, rfl⟩ := ry
  obtain ⟨its, r, ⟨⟨cls, dd, data, sl⟩, ho, hc, n, hd⟩, hs⟩ := I.tuple hT
  simp only at hc hd
  subst hc hd
  have hle : its.length = xs.length := r.length.symm
  have hn : its ≠ [] := fun e => hne (by
    rw [e] at hle
    exact List.eq_nil_of_length_eq_zero hle.symm)
  have hi : its.toArray.isEmpty = false := by
    cases its with
    | nil => exact absurd rfl hn
    | cons a b => rfl
  by_cases e1 : k = 1
  · subst e1
    refine wpAny_binaryOp_repeat_ref (T := "tuple") (U := "int") (by decide) ⟨_, ho, rfl⟩ (fun s' => typeIs_int s' 1 t) noFill_tuple_mul F.fills_int_mul F.slot_int_rmul repeat_tuple F.slot_int_index.lookup
      (call_meets F.slot_int_rmul (typeIs_int s 1 t) F.entry_int_rmul (F.args_int_rmul_2 _ _) (int_rmul_tuple 1 t l its.toArray n dd sl)
        ⟨ho, rfl, ⟨_, ho, rfl⟩, call_meets F.slot_tuple_mul ⟨_, ho, rfl⟩ F.entry_tuple_mul (F.args_tuple_mul_2 _ _) (mul_one l its.toArray n dd sl t hi) ⟨ho, ?_⟩⟩)
    exact ⟨.ref l, H, I, rfl, q1 rfl⟩
  · have e0 : k = 0 := by omega
    subst e0
    refine wpAny_binaryOp_repeat_ref (T := "tuple") (U := "int") (by decide) ⟨_, ho, rfl⟩ (fun s' => typeIs_int s' 0 t) noFill_tuple_mul F.fills_int_mul F.slot_int_rmul repeat_tuple F.slot_int_index.lookup
      (call_meets F.slot_int_rmul (typeIs_int s 0 t) F.entry_int_rmul (F.args_int_rmul_2 _ _) (int_rmul_tuple 0 t l its.toArray n dd sl)
        ⟨ho, rfl, ⟨_, ho, rfl⟩, call_meets F.slot_tuple_mul ⟨_, ho, rfl⟩ F.entry_tuple_mul (F.args_tuple_mul_2 _ _) (mul_none l its.toArray n dd sl t hi) ⟨ho, ?_⟩⟩)
    refine ⟨.ref s.heap.objs.size, _, I.laid (t' := s.toks) (o := .tup []) (fun b ob q => Heap.get?_push_of_some _ q) (Nat.le_refl _) ?_, rfl, q2 (by decide) _ (I.hok.fresh (Nat.le_refl _))⟩
    exact ⟨Nat.zero_le _, _, .nil, IsTup.new _ _⟩
end
end L2.Tpm
set_option maxHeartbeats 2000000
namespace L2.Pf
open PySem PySem.Spec PyProof.Rows L2.Ev L2.Tpd L2.Seti L2.Gq L2.Enf L2.Sett L2.Itr L2.Dls L2.Own
def topS (i : Nat) : Stmt := PySem.Challenge.pw_lookuploops_k12_facts_kept.main.body.getD i (.Pass ⟨0, 0, 0, 0⟩)
abbrev s_wall : Stmt := topS 0
abbrev n_wall : List Str := ["k"]
abbrev p_wall : List Str := ["k"]
theorem sc_wall : FnScope n_wall p_wall (defScope s_wall) := ⟨rfl, rfl, rfl, by decide +kernel, rfl, by decide +kernel, by decide +kernel⟩
abbrev s_BadTables_init : Stmt := inClass (topS 3) 0
abbrev n_BadTables_init : List Str := ["self", "table"]
abbrev p_BadTables_init : List Str := ["self", "table"]
theorem sc_BadTables_init : FnScope n_BadTables_init p_BadTables_init (defScope s_BadTables_init) := ⟨rfl, rfl, rfl, by decide +kernel, rfl, by decide +kernel, by decide +kernel⟩
abbrev s_BadFact_init : Stmt := inClass (topS 4) 0
abbrev n_BadFact_init : List Str := ["self", "index"]
abbrev p_BadFact_init : List Str := ["self", "index"]
theorem sc_BadFact_init : FnScope n_BadFact_init p_BadFact_init (defScope s_BadFact_init) := ⟨rfl, rfl, rfl, by decide +kernel, rfl, by decide +kernel, by decide +kernel⟩
abbrev s_BadProgram_init : Stmt := inClass (topS 5) 0
abbrev n_BadProgram_init : List Str := ["self", "line"]
abbrev p_BadProgram_init : List Str := ["self", "line"]
theorem sc_BadProgram_init : FnScope n_BadProgram_init p_BadProgram_init (defScope s_BadProgram_init) := ⟨rfl, rfl, rfl, by decide +kernel, rfl, by decide +kernel, by decide +kernel⟩
abbrev s_NoName_init : Stmt := inClass (topS 7) 0
abbrev n_NoName_init : List Str := ["self", "name"]
abbrev p_NoName_init : List Str := ["self", "name"]
theorem sc_NoName_init : FnScope n_NoName_init p_NoName_init (defScope s_NoName_init) := ⟨rfl, rfl, rfl, by decide +kernel, rfl, by decide +kernel, by decide +kernel⟩
abbrev s_reached : Stmt := topS 9
abbrev n_reached : List Str := ["place", "links", "known", "waiting", "here", "start", "goal"]
abbrev p_reached : List Str := ["place", "links"]
theorem sc_reached : FnScope n_reached p_reached (defScope s_reached) := ⟨rfl, rfl, rfl, by decide +kernel, rfl, by decide +kernel, by decide +kernel⟩
abbrev s_lines_of : Stmt := topS 14
abbrev n_lines_of : List Str := ["text"]
abbrev p_lines_of : List Str := ["text"]
theorem sc_lines_of : FnScope n_lines_of p_lines_of (defScope s_lines_of) := ⟨rfl, rfl, rfl, by decide +kernel, rfl, by decide +kernel, by decide +kernel⟩
abbrev s_words_of : Stmt := topS 15
abbrev n_words_of : List Str := ["line"]
abbrev p_words_of : List Str := ["line"]
theorem sc_words_of : FnScope n_words_of p_words_of (defScope s_words_of) := ⟨rfl, rfl, rfl, by decide +kernel, rfl, by decide +kernel, by decide +kernel⟩
abbrev s_is_name : Stmt := topS 16
abbrev n_is_name : List Str := ["text", "letter"]
abbrev p_is_name : List Str := ["text"]
theorem sc_is_name : FnScope n_is_name p_is_name (defScope s_is_name) := ⟨rfl, rfl, rfl, by decide +kernel, rfl, by decide +kernel, by decide +kernel⟩
abbrev s_read_facts : Stmt := topS 20
abbrev n_read_facts : List Str := ["schema", "lines", "facts", "links", "index", "line", "fact"]
abbrev p_read_facts : List Str := ["schema", "lines"]
theorem sc_read_facts : FnScope n_read_facts p_read_facts (defScope s_read_facts) := ⟨rfl, rfl, rfl, by decide +kernel, rfl, by decide +kernel, by decide +kernel⟩
abbrev s_read_fact : Stmt := topS 21
abbrev n_read_fact : List Str := ["schema", "line", "words", "place", "goal"]
abbrev p_read_fact : List Str := ["schema", "line"]
theorem sc_read_fact : FnScope n_read_fact p_read_fact (defScope s_read_fact) := ⟨rfl, rfl, rfl, by decide +kernel, rfl, by decide +kernel, by decide +kernel⟩
abbrev s_read_table : Stmt := topS 22
abbrev n_read_table : List Str := ["schema", "word"]
abbrev p_read_table : List Str := ["schema", "word"]
theorem sc_read_table : FnScope n_read_table p_read_table (defScope s_read_table) := ⟨rfl, rfl, rfl, by decide +kernel, rfl, by decide +kernel, by decide +kernel⟩
abbrev s_read_column : Stmt := topS 23
abbrev n_read_column : List Str := ["schema", "word", "table", "_", "column"]
abbrev p_read_column : List Str := ["schema", "word"]
theorem sc_read_column : FnScope n_read_column p_read_column (defScope s_read_column) := ⟨rfl, rfl, rfl, by decide +kernel, rfl, by decide +kernel, by decide +kernel⟩
abbrev s_leads_back : Stmt := topS 24
abbrev n_leads_back : List Str := ["fact", "links", "start", "goal"]
abbrev p_leads_back : List Str := ["fact", "links"]
theorem sc_leads_back : FnScope n_leads_back p_leads_back (defScope s_leads_back) := ⟨rfl, rfl, rfl, by decide +kernel, rfl, by decide +kernel, by decide +kernel⟩
abbrev s_column_links : Stmt := topS 25
abbrev n_column_links : List Str := ["facts", "word", "place", "goal"]
abbrev p_column_links : List Str := ["facts"]
theorem sc_column_links : FnScope n_column_links p_column_links (defScope s_column_links) := ⟨rfl, rfl, rfl, by decide +kernel, rfl, by decide +kernel, by decide +kernel⟩
abbrev s_table_links : Stmt := topS 26
abbrev n_table_links : List Str := ["facts", "place", "goal"]
abbrev p_table_links : List Str := ["facts"]
theorem sc_table_links : FnScope n_table_links p_table_links (defScope s_table_links) := ⟨rfl, rfl, rfl, by decide +kernel, rfl, by decide +kernel, by decide +kernel⟩
abbrev s_keeps : Stmt := topS 28
abbrev n_keeps : List Str := ["schema", "tables", "fact", "word", "place", "goal", "values"]
abbrev p_keeps : List Str := ["schema", "tables", "fact"]
theorem sc_keeps : FnScope n_keeps p_keeps (defScope s_keeps) := ⟨rfl, rfl, rfl, by decide +kernel, rfl, by decide +kernel, by decide +kernel⟩
abbrev s_column_values : Stmt := topS 29
abbrev n_column_values : List Str := ["schema", "tables", "place", "table", "column", "at", "row"]
abbrev p_column_values : List Str := ["schema", "tables", "place"]
theorem sc_column_values : FnScope n_column_values p_column_values (defScope s_column_values) := ⟨rfl, rfl, rfl, by decide +kernel, rfl, by decide +kernel, by decide +kernel⟩
abbrev s_are_among : Stmt := topS 30
abbrev n_are_among : List Str := ["values", "others", "known", "value"]
abbrev p_are_among : List Str := ["values", "others"]
theorem sc_are_among : FnScope n_are_among p_are_among (defScope s_are_among) := ⟨rfl, rfl, rfl, by decide +kernel, rfl, by decide +kernel, by decide +kernel⟩
abbrev s_Facts_init : Stmt := inClass (topS 32) 0
abbrev n_Facts_init : List Str := ["self", "schema", "lines"]
abbrev p_Facts_init : List Str := ["self", "schema", "lines"]
theorem sc_Facts_init : FnScope n_Facts_init p_Facts_init (defScope s_Facts_init) := ⟨rfl, rfl, rfl, by decide +kernel, rfl, by decide +kernel, by decide +kernel⟩
abbrev s_Facts_lines : Stmt := inClass (topS 32) 1
abbrev n_Facts_lines : List Str := ["self"]
abbrev p_Facts_lines : List Str := ["self"]
theorem sc_Facts_lines : FnScope n_Facts_lines p_Facts_lines (defScope s_Facts_lines) := ⟨rfl, rfl, rfl, by decide +kernel, rfl, by decide +kernel, by decide +kernel⟩
abbrev s_Facts_iter : Stmt := inClass (topS 32) 2
abbrev n_Facts_iter : List Str := ["self"]
abbrev p_Facts_iter : List Str := ["self"]
theorem sc_Facts_iter : FnScope n_Facts_iter p_Facts_iter (defScope s_Facts_iter) := ⟨rfl, rfl, rfl, by decide +kernel, rfl, by decide +kernel, by decide +kernel⟩
abbrev s_Facts_contains : Stmt := inClass (topS 32) 3
abbrev n_Facts_contains : List Str := ["self", "line"]
abbrev p_Facts_contains : List Str := ["self", "line"]
theorem sc_Facts_contains : FnScope n_Facts_contains p_Facts_contains (defScope s_Facts_contains) := ⟨rfl, rfl, rfl, by decide +kernel, rfl, by decide +kernel, by decide +kernel⟩
abbrev s_Facts_or : Stmt := inClass (topS 32) 4
abbrev n_Facts_or : List Str := ["self", "other"]
abbrev p_Facts_or : List Str := ["self", "other"]
theorem sc_Facts_or : FnScope n_Facts_or p_Facts_or (defScope s_Facts_or) := ⟨rfl, rfl, rfl, by decide +kernel, rfl, by decide +kernel, by decide +kernel⟩
abbrev s_Facts_broken : Stmt := inClass (topS 32) 5
abbrev n_Facts_broken : List Str := ["self", "tables", "line", "fact"]
abbrev p_Facts_broken : List Str := ["self", "tables"]
theorem sc_Facts_broken : FnScope n_Facts_broken p_Facts_broken (defScope s_Facts_broken) := ⟨rfl, rfl, rfl, by decide +kernel, rfl, by decide +kernel, by decide +kernel⟩
abbrev s_Facts_are_over : Stmt := inClass (topS 32) 6
abbrev n_Facts_are_over : List Str := ["self", "schema"]
abbrev p_Facts_are_over : List Str := ["self", "schema"]
theorem sc_Facts_are_over : FnScope n_Facts_are_over p_Facts_are_over (defScope s_Facts_are_over) := ⟨rfl, rfl, rfl, by decide +kernel, rfl, by decide +kernel, by decide +kernel⟩
abbrev s_Facts_as_read : Stmt := inClass (topS 32) 7
abbrev n_Facts_as_read : List Str := ["self"]
abbrev p_Facts_as_read : List Str := ["self"]
theorem sc_Facts_as_read : FnScope n_Facts_as_read p_Facts_as_read (defScope s_Facts_as_read) := ⟨rfl, rfl, rfl, by decide +kernel, rfl, by decide +kernel, by decide +kernel⟩
abbrev s_Facts_implies : Stmt := inClass (topS 32) 8
abbrev n_Facts_implies : List Str := ["self", "line"]
abbrev p_Facts_implies : List Str := ["self", "line"]
theorem sc_Facts_implies : FnScope n_Facts_implies p_Facts_implies (defScope s_Facts_implies) := ⟨rfl, rfl, rfl, by decide +kernel, rfl, by decide +kernel, by decide +kernel⟩
abbrev s_Schema_init : Stmt := inClass (topS 36) 0
abbrev n_Schema_init : List Str := ["self", "text"]
abbrev p_Schema_init : List Str := ["self", "text"]
theorem sc_Schema_init : FnScope n_Schema_init p_Schema_init (defScope s_Schema_init) := ⟨rfl, rfl, rfl, by decide +kernel, rfl, by decide +kernel, by decide +kernel⟩
abbrev s_Schema_columns : Stmt := inClass (topS 36) 1
abbrev n_Schema_columns : List Str := ["self", "table"]
abbrev p_Schema_columns : List Str := ["self", "table"]
theorem sc_Schema_columns : FnScope n_Schema_columns p_Schema_columns (defScope s_Schema_columns) := ⟨rfl, rfl, rfl, by decide +kernel, rfl, by decide +kernel, by decide +kernel⟩
abbrev s_Schema_fits : Stmt := inClass (topS 36) 2
abbrev n_Schema_fits : List Str := ["self", "other"]
abbrev p_Schema_fits : List Str := ["self", "other"]
theorem sc_Schema_fits : FnScope n_Schema_fits p_Schema_fits (defScope s_Schema_fits) := ⟨rfl, rfl, rfl, by decide +kernel, rfl, by decide +kernel, by decide +kernel⟩
abbrev s_Schema_check : Stmt := inClass (topS 36) 3
abbrev n_Schema_check : List Str := ["self", "tables", "table", "strange"]
abbrev p_Schema_check : List Str := ["self", "tables"]
theorem sc_Schema_check : FnScope n_Schema_check p_Schema_check (defScope s_Schema_check) := ⟨rfl, rfl, rfl, by decide +kernel, rfl, by decide +kernel, by decide +kernel⟩
abbrev s_declared_tables : Stmt := topS 37
abbrev n_declared_tables : List Str := ["text", "lines", "tables", "number", "line", "words"]
abbrev p_declared_tables : List Str := ["text"]
theorem sc_declared_tables : FnScope n_declared_tables p_declared_tables (defScope s_declared_tables) := ⟨rfl, rfl, rfl, by decide +kernel, rfl, by decide +kernel, by decide +kernel⟩
abbrev s_is_table_line : Stmt := topS 38
abbrev n_is_table_line : List Str := ["words", "columns", "word"]
abbrev p_is_table_line : List Str := ["words"]
theorem sc_is_table_line : FnScope n_is_table_line p_is_table_line (defScope s_is_table_line) := ⟨rfl, rfl, rfl, by decide +kernel, rfl, by decide +kernel, by decide +kernel⟩
abbrev s_are_rows : Stmt := topS 39
abbrev n_are_rows : List Str := ["rows", "width", "row"]
abbrev p_are_rows : List Str := ["rows", "width"]
theorem sc_are_rows : FnScope n_are_rows p_are_rows (defScope s_are_rows) := ⟨rfl, rfl, rfl, by decide +kernel, rfl, by decide +kernel, by decide +kernel⟩
abbrev s_is_row : Stmt := topS 40
abbrev n_is_row : List Str := ["row", "width", "value"]
abbrev p_is_row : List Str := ["row", "width"]
theorem sc_is_row : FnScope n_is_row p_is_row (defScope s_is_row) := ⟨rfl, rfl, rfl, by decide +kernel, rfl, by decide +kernel, by decide +kernel⟩
abbrev s_is_integer : Stmt := topS 41
abbrev n_is_integer : List Str := ["value"]
abbrev p_is_integer : List Str := ["value"]
theorem sc_is_integer : FnScope n_is_integer p_is_integer (defScope s_is_integer) := ⟨rfl, rfl, rfl, by decide +kernel, rfl, by decide +kernel, by decide +kernel⟩
abbrev s_begun_pen : Stmt := topS 43
abbrev n_begun_pen : List Str := ["_law_script"]
abbrev p_begun_pen : List Str := ["_law_script"]
theorem sc_begun_pen : FnScope n_begun_pen p_begun_pen (defScope s_begun_pen) := ⟨rfl, rfl, rfl, by decide +kernel, rfl, by decide +kernel, by decide +kernel⟩
abbrev s_draw : Stmt := topS 44
abbrev n_draw : List Str := ["_law_pen", "_law_span", "_law_digit", "_law_turn", "_law_cell", "_law_mixed"]
abbrev p_draw : List Str := ["_law_pen", "_law_span"]
theorem sc_draw : FnScope n_draw p_draw (defScope s_draw) := ⟨rfl, rfl, rfl, by decide +kernel, rfl, by decide +kernel, by decide +kernel⟩
abbrev s_pick : Stmt := topS 45
abbrev n_pick : List Str := ["_law_pen", "_law_options"]
abbrev p_pick : List Str := ["_law_pen", "_law_options"]
theorem sc_pick : FnScope n_pick p_pick (defScope s_pick) := ⟨rfl, rfl, rfl, by decide +kernel, rfl, by decide +kernel, by decide +kernel⟩
abbrev s_shuffled : Stmt := topS 46
abbrev n_shuffled : List Str := ["_law_pen", "_law_items", "_law_rest", "_law_found"]
abbrev p_shuffled : List Str := ["_law_pen", "_law_items"]
theorem sc_shuffled : FnScope n_shuffled p_shuffled (defScope s_shuffled) := ⟨rfl, rfl, rfl, by decide +kernel, rfl, by decide +kernel, by decide +kernel⟩
abbrev s_new_names : Stmt := topS 47
abbrev n_new_names : List Str := ["_law_pen", "_law_many", "_law_found"]
abbrev p_new_names : List Str := ["_law_pen", "_law_many"]
theorem sc_new_names : FnScope n_new_names p_new_names (defScope s_new_names) := ⟨rfl, rfl, rfl, by decide +kernel, rfl, by decide +kernel, by decide +kernel⟩
abbrev s_columns : Stmt := topS 48
abbrev n_columns : List Str := ["_law_plain", "_law_table", "_law_name", "_law_columns_here"]
abbrev p_columns : List Str := ["_law_plain", "_law_table"]
theorem sc_columns : FnScope n_columns p_columns (defScope s_columns) := ⟨rfl, rfl, rfl, by decide +kernel, rfl, by decide +kernel, by decide +kernel⟩
abbrev s_new_integer : Stmt := topS 49
abbrev n_new_integer : List Str := ["_law_pen"]
abbrev p_new_integer : List Str := ["_law_pen"]
theorem sc_new_integer : FnScope n_new_integer p_new_integer (defScope s_new_integer) := ⟨rfl, rfl, rfl, by decide +kernel, rfl, by decide +kernel, by decide +kernel⟩
abbrev s_new_rows : Stmt := topS 50
abbrev n_new_rows : List Str := ["_law_pen", "_law_plain", "_law_most", "_law_span", "_law_found", "_law_table", "_law_columns_here", "_law_k", "_law_row", "_law_column"]
abbrev p_new_rows : List Str := ["_law_pen", "_law_plain", "_law_most", "_law_span"]
theorem sc_new_rows : FnScope n_new_rows p_new_rows (defScope s_new_rows) := ⟨rfl, rfl, rfl, by decide +kernel, rfl, by decide +kernel, by decide +kernel⟩
abbrev s_lawkeeps : Stmt := topS 51
abbrev n_lawkeeps : List Str := ["_law_plain", "_law_fact", "_law_tables", "_law_words", "_law_name", "_law_column", "_law_at", "_law_values", "_law_row", "_law_other", "_law_place", "_law_there", "_law_value"]
abbrev p_lawkeeps : List Str := ["_law_plain", "_law_fact", "_law_tables"]
theorem sc_lawkeeps : FnScope n_lawkeeps p_lawkeeps (defScope s_lawkeeps) := ⟨rfl, rfl, rfl, by decide +kernel, rfl, by decide +kernel, by decide +kernel⟩
abbrev s_drawn_tables : Stmt := topS 52
abbrev n_drawn_tables : List Str := ["_law_pen", "_law_many", "_law_names", "_law_k"]
abbrev p_drawn_tables : List Str := ["_law_pen", "_law_many"]
theorem sc_drawn_tables : FnScope n_drawn_tables p_drawn_tables (defScope s_drawn_tables) := ⟨rfl, rfl, rfl, by decide +kernel, rfl, by decide +kernel, by decide +kernel⟩
abbrev s_schema_text : Stmt := topS 53
abbrev n_schema_text : List Str := ["_law_tables", "_law_name", "_law_columns_here"]
abbrev p_schema_text : List Str := ["_law_tables"]
theorem sc_schema_text : FnScope n_schema_text p_schema_text (defScope s_schema_text) := ⟨rfl, rfl, rfl, by decide +kernel, rfl, by decide +kernel, by decide +kernel⟩
abbrev s_spot : Stmt := topS 54
abbrev n_spot : List Str := ["_law_pen", "_law_table"]
abbrev p_spot : List Str := ["_law_pen", "_law_table"]
theorem sc_spot : FnScope n_spot p_spot (defScope s_spot) := ⟨rfl, rfl, rfl, by decide +kernel, rfl, by decide +kernel, by decide +kernel⟩
abbrev s_new_fact : Stmt := topS 55
abbrev n_new_fact : List Str := ["_law_pen", "_law_tables", "_law_at", "_law_way"]
abbrev p_new_fact : List Str := ["_law_pen", "_law_tables"]
theorem sc_new_fact : FnScope n_new_fact p_new_fact (defScope s_new_fact) := ⟨rfl, rfl, rfl, by decide +kernel, rfl, by decide +kernel, by decide +kernel⟩
abbrev s_new_facts : Stmt := topS 56
abbrev n_new_facts : List Str := ["_law_pen", "_law_tables", "_law_many", "_law_order", "_law_k"]
abbrev p_new_facts : List Str := ["_law_pen", "_law_tables", "_law_many"]
theorem sc_new_facts : FnScope n_new_facts p_new_facts (defScope s_new_facts) := ⟨rfl, rfl, rfl, by decide +kernel, rfl, by decide +kernel, by decide +kernel⟩
abbrev s_told_table : Stmt := topS 57
abbrev n_told_table : List Str := ["_law_facts", "_law_tables", "e"]
abbrev p_told_table : List Str := ["_law_facts", "_law_tables"]
theorem sc_told_table : FnScope n_told_table p_told_table (defScope s_told_table) := ⟨rfl, rfl, rfl, by decide +kernel, rfl, by decide +kernel, by decide +kernel⟩
abbrev s_nearly_kept : Stmt := topS 58
abbrev n_nearly_kept : List Str := ["_law_pen", "_law_plain", "_law_lines", "_law_rows", "_law_table", "_law_columns_here", "_law_way", "_law_k"]
abbrev p_nearly_kept : List Str := ["_law_pen", "_law_plain", "_law_lines"]
theorem sc_nearly_kept : FnScope n_nearly_kept p_nearly_kept (defScope s_nearly_kept) := ⟨rfl, rfl, rfl, by decide +kernel, rfl, by decide +kernel, by decide +kernel⟩
abbrev s_refusals_right : Stmt := topS 59
abbrev n_refusals_right : List Str := ["_law_pen", "_law_facts", "_law_plain", "_law_rows", "_law_names", "_law_name", "_law_columns_here", "_law_spoiled", "_law_due", "_law_way", "_law_more"]
abbrev p_refusals_right : List Str := ["_law_pen", "_law_facts", "_law_plain", "_law_rows"]
theorem sc_refusals_right : FnScope n_refusals_right p_refusals_right (defScope s_refusals_right) := ⟨rfl, rfl, rfl, by decide +kernel, rfl, by decide +kernel, by decide +kernel⟩
abbrev s_law : Stmt := topS 60
abbrev n_law : List Str := ["_law_script", "_law_pen", "_law_turn", "_law_tables", "_law_plain", "_law_schema", "_law_lines", "_law_facts", "_law_other", "_law_rows", "_law_broken", "_law_line", "_law_empty", "_law_name", "_law_columns_here"]
abbrev p_law : List Str := ["_law_script"]
theorem sc_law : FnScope n_law p_law (defScope s_law) := ⟨rfl, rfl, rfl, by decide +kernel, rfl, by decide +kernel, by decide +kernel⟩
def k_RESERVED : List V := [.str "table", .str "index", .str "of", .str "in", .str "from", .str "at", .str "by", .str "keep", .str "first", .str "last", .str "all", .str "where", .str "until", .str "find", .str "get", .str "need", .str "each", .str "if", .str "else", .str "end", .str "put", .str "next", .str "and", .str "not", .str "is", .str "some", .str "before", .str "has", .str "missing", .str "none"]
def k_OF_TABLES : List V := [.str "single", .str "filled"]
def k_OF_COLUMNS : List V := [.str "unique", .str "sorted"]
/-- what the top has left -/
structure TX (K : PySem.W.Frag) (mg : Str → Option Value) where
  z_all : mg "all" = none
  z_len : mg "len" = none
  z_enumerate : mg "enumerate" = none
  z_any : mg "any" = none
  z_sorted : mg "sorted" = none
  z_set : mg "set" = none
  z_property : mg "property" = none
  z_list : mg "list" = none
  z_iter : mg "iter" = none
  z_tuple : mg "tuple" = none
  z_isinstance : mg "isinstance" = none
  z_int : mg "int" = none
  z_bool : mg "bool" = none
  z_abs : mg "abs" = none
  z_range : mg "range" = none
  z_dict : mg "dict" = none
  c_LETTERS : ∃ t, mg "LETTERS" = some (.str "abcdefghijklmnopqrstuvwxyz" t)
  c_LONGEST_NAME : ∃ t, mg "LONGEST_NAME" = some (.int 12 t)
  a_RESERVED : Addr
  c_RESERVED : mg "RESERVED" = some (.ref a_RESERVED)
  v_RESERVED : ∃ (dd : Option Addr) (n : Nat) (sl : Array (Option Value)) (us : List Value), Vals k_RESERVED us ∧ K.lookup a_RESERVED = some ⟨.type "tuple", dd, .seq us.toArray n, sl⟩
  a_OF_TABLES : Addr
  c_OF_TABLES : mg "OF_TABLES" = some (.ref a_OF_TABLES)
  v_OF_TABLES : ∃ (dd : Option Addr) (n : Nat) (sl : Array (Option Value)) (us : List Value), Vals k_OF_TABLES us ∧ K.lookup a_OF_TABLES = some ⟨.type "tuple", dd, .seq us.toArray n, sl⟩
  a_OF_COLUMNS : Addr
  c_OF_COLUMNS : mg "OF_COLUMNS" = some (.ref a_OF_COLUMNS)
  v_OF_COLUMNS : ∃ (dd : Option Addr) (n : Nat) (sl : Array (Option Value)) (us : List Value), Vals k_OF_COLUMNS us ∧ K.lookup a_OF_COLUMNS = some ⟨.type "tuple", dd, .seq us.toArray n, sl⟩
  c_MOST_TABLES : ∃ t, mg "MOST_TABLES" = some (.int 4 t)
  c_MOST_COLUMNS : ∃ t, mg "MOST_COLUMNS" = some (.int 3 t)
  x_LookError : XC K mg "LookError" [.type "ValueError", .type "Exception", .type "BaseException", .type "object"]
  e_LookError : PySem.W.excIn K x_LookError.C [.type "ValueError", .type "Exception", .type "BaseException", .type "object"] "ValueError.__new__" = true
  x_BadTables : XC K mg "BadTables" [.ref x_LookError.C, .type "ValueError", .type "Exception", .type "BaseException", .type "object"]
  x_BadFact : XC K mg "BadFact" [.ref x_LookError.C, .type "ValueError", .type "Exception", .type "BaseException", .type "object"]
  x_BadProgram : XC K mg "BadProgram" [.ref x_LookError.C, .type "ValueError", .type "Exception", .type "BaseException", .type "object"]
  x_OtherTables : XC K mg "OtherTables" [.ref x_LookError.C, .type "ValueError", .type "Exception", .type "BaseException", .type "object"]
  e_OtherTables : PySem.W.excIn K x_OtherTables.C [.type "ValueError", .type "Exception", .type "BaseException", .type "object"] "ValueError.__new__" = true
  x_NoName : XC K mg "NoName" [.ref x_LookError.C, .type "ValueError", .type "Exception", .type "BaseException", .type "object"]
  C_Facts : Addr
  g_Facts : mg "Facts" = some (.ref C_Facts)
  cl_Facts : Cls K C_Facts
  n_Facts__schema : NoAttr K C_Facts "_schema"
  n_Facts__facts : NoAttr K C_Facts "_facts"
  C_Schema : Addr
  g_Schema : mg "Schema" = some (.ref C_Schema)
  cl_Schema : Cls K C_Schema
  n_Schema__columns : NoAttr K C_Schema "_columns"
  n_Schema_tables : NoAttr K C_Schema "tables"
  a_wall : Addr
  fd_wall : FuncData
  F_wall : Fun K "_wall" "_wall" s_wall a_wall fd_wall
  b_wall : Binds K fd_wall p_wall []
  g_wall : mg "_wall" = some (.ref a_wall)
  a_BadTables_init : Addr
  fd_BadTables_init : FuncData
  F_BadTables_init : Fun K "__init__" "BadTables.__init__" s_BadTables_init a_BadTables_init fd_BadTables_init
  b_BadTables_init : Binds K fd_BadTables_init p_BadTables_init []
  i_BadTables_init : PySem.W.findIn K (.ref x_BadTables.C) "__init__" = some (some (.ref a_BadTables_init))
  t_BadTables_init : PySem.W.typeIn K (.ref a_BadTables_init) = some (.type "function")
  f_BadTables_init_table : PySem.W.findIn K (.ref x_BadTables.C) "table" = some none
  a_BadFact_init : Addr
  fd_BadFact_init : FuncData
  F_BadFact_init : Fun K "__init__" "BadFact.__init__" s_BadFact_init a_BadFact_init fd_BadFact_init
  b_BadFact_init : Binds K fd_BadFact_init p_BadFact_init []
  i_BadFact_init : PySem.W.findIn K (.ref x_BadFact.C) "__init__" = some (some (.ref a_BadFact_init))
  t_BadFact_init : PySem.W.typeIn K (.ref a_BadFact_init) = some (.type "function")
  f_BadFact_init_index : PySem.W.findIn K (.ref x_BadFact.C) "index" = some none
  a_BadProgram_init : Addr
  fd_BadProgram_init : FuncData
  F_BadProgram_init : Fun K "__init__" "BadProgram.__init__" s_BadProgram_init a_BadProgram_init fd_BadProgram_init
  b_BadProgram_init : Binds K fd_BadProgram_init p_BadProgram_init []
  i_BadProgram_init : PySem.W.findIn K (.ref x_BadProgram.C) "__init__" = some (some (.ref a_BadProgram_init))
  t_BadProgram_init : PySem.W.typeIn K (.ref a_BadProgram_init) = some (.type "function")
  f_BadProgram_init_line : PySem.W.findIn K (.ref x_BadProgram.C) "line" = some none
  a_NoName_init : Addr
  fd_NoName_init : FuncData
  F_NoName_init : Fun K "__init__" "NoName.__init__" s_NoName_init a_NoName_init fd_NoName_init
  b_NoName_init : Binds K fd_NoName_init p_NoName_init []
  i_NoName_init : PySem.W.findIn K (.ref x_NoName.C) "__init__" = some (some (.ref a_NoName_init))
  t_NoName_init : PySem.W.typeIn K (.ref a_NoName_init) = some (.type "function")
  f_NoName_init_name : PySem.W.findIn K (.ref x_NoName.C) "name" = some none
  a_reached : Addr
  fd_reached : FuncData
  F_reached : Fun K "reached" "reached" s_reached a_reached fd_reached
  b_reached : Binds K fd_reached p_reached []
  g_reached : mg "reached" = some (.ref a_reached)
  a_lines_of : Addr
  fd_lines_of : FuncData
  F_lines_of : Fun K "lines_of" "lines_of" s_lines_of a_lines_of fd_lines_of
  b_lines_of : Binds K fd_lines_of p_lines_of []
  g_lines_of : mg "lines_of" = some (.ref a_lines_of)
  a_words_of : Addr
  fd_words_of : FuncData
  F_words_of : Fun K "words_of" "words_of" s_words_of a_words_of fd_words_of
  b_words_of : Binds K fd_words_of p_words_of []
  g_words_of : mg "words_of" = some (.ref a_words_of)
  a_is_name : Addr
  fd_is_name : FuncData
  F_is_name : Fun K "is_name" "is_name" s_is_name a_is_name fd_is_name
  b_is_name : Binds K fd_is_name p_is_name []
  c_is_name : Addr
  P_is_name : Addr
  t_is_name : fd_is_name.code = .ref c_is_name
  tb_is_name : PySem.W.tabIn K "is_name" = some (c_is_name, P_is_name)
  tn_is_name : K.lookup P_is_name = none
  g_is_name : mg "is_name" = some (.ref a_is_name)
  a_read_facts : Addr
  fd_read_facts : FuncData
  F_read_facts : Fun K "read_facts" "read_facts" s_read_facts a_read_facts fd_read_facts
  b_read_facts : Binds K fd_read_facts p_read_facts []
  g_read_facts : mg "read_facts" = some (.ref a_read_facts)
  a_read_fact : Addr
  fd_read_fact : FuncData
  F_read_fact : Fun K "read_fact" "read_fact" s_read_fact a_read_fact fd_read_fact
  b_read_fact : Binds K fd_read_fact p_read_fact []
  g_read_fact : mg "read_fact" = some (.ref a_read_fact)
  a_read_table : Addr
  fd_read_table : FuncData
  F_read_table : Fun K "read_table" "read_table" s_read_table a_read_table fd_read_table
  b_read_table : Binds K fd_read_table p_read_table []
  g_read_table : mg "read_table" = some (.ref a_read_table)
  a_read_column : Addr
  fd_read_column : FuncData
  F_read_column : Fun K "read_column" "read_column" s_read_column a_read_column fd_read_column
  b_read_column : Binds K fd_read_column p_read_column []
  g_read_column : mg "read_column" = some (.ref a_read_column)
  a_leads_back : Addr
  fd_leads_back : FuncData
  F_leads_back : Fun K "leads_back" "leads_back" s_leads_back a_leads_back fd_leads_back
  b_leads_back : Binds K fd_leads_back p_leads_back []
  c_leads_back : Addr
  P_leads_back : Addr
  t_leads_back : fd_leads_back.code = .ref c_leads_back
  tb_leads_back : PySem.W.tabIn K "leads_back" = some (c_leads_back, P_leads_back)
  tn_leads_back : K.lookup P_leads_back = none
  g_leads_back : mg "leads_back" = some (.ref a_leads_back)
  a_column_links : Addr
  fd_column_links : FuncData
  F_column_links : Fun K "column_links" "column_links" s_column_links a_column_links fd_column_links
  b_column_links : Binds K fd_column_links p_column_links []
  g_column_links : mg "column_links" = some (.ref a_column_links)
  a_table_links : Addr
  fd_table_links : FuncData
  F_table_links : Fun K "table_links" "table_links" s_table_links a_table_links fd_table_links
  b_table_links : Binds K fd_table_links p_table_links []
  g_table_links : mg "table_links" = some (.ref a_table_links)
  a_keeps : Addr
  fd_keeps : FuncData
  F_keeps : Fun K "keeps" "keeps" s_keeps a_keeps fd_keeps
  b_keeps : Binds K fd_keeps p_keeps []
  g_keeps : mg "keeps" = some (.ref a_keeps)
  a_column_values : Addr
  fd_column_values : FuncData
  F_column_values : Fun K "column_values" "column_values" s_column_values a_column_values fd_column_values
  b_column_values : Binds K fd_column_values p_column_values []
  g_column_values : mg "column_values" = some (.ref a_column_values)
  a_are_among : Addr
  fd_are_among : FuncData
  F_are_among : Fun K "are_among" "are_among" s_are_among a_are_among fd_are_among
  b_are_among : Binds K fd_are_among p_are_among []
  g_are_among : mg "are_among" = some (.ref a_are_among)
  a_Facts_init : Addr
  fd_Facts_init : FuncData
  F_Facts_init : Fun K "__init__" "Facts.__init__" s_Facts_init a_Facts_init fd_Facts_init
  b_Facts_init : Binds K fd_Facts_init p_Facts_init []
  mk_Facts : Mk K C_Facts a_Facts_init
  a_Facts_lines : Addr
  fd_Facts_lines : FuncData
  F_Facts_lines : Fun K "lines" "Facts.lines" s_Facts_lines a_Facts_lines fd_Facts_lines
  b_Facts_lines : Binds K fd_Facts_lines p_Facts_lines []
  pp_Facts_lines : Addr
  pr_Facts_lines : PropOf K C_Facts "lines" pp_Facts_lines a_Facts_lines
  a_Facts_iter : Addr
  fd_Facts_iter : FuncData
  F_Facts_iter : Fun K "__iter__" "Facts.__iter__" s_Facts_iter a_Facts_iter fd_Facts_iter
  b_Facts_iter : Binds K fd_Facts_iter p_Facts_iter []
  io_Facts_iter : Itr.ItOwn K C_Facts a_Facts_iter
  a_Facts_contains : Addr
  fd_Facts_contains : FuncData
  F_Facts_contains : Fun K "__contains__" "Facts.__contains__" s_Facts_contains a_Facts_contains fd_Facts_contains
  b_Facts_contains : Binds K fd_Facts_contains p_Facts_contains []
  ic_Facts_contains : Own.InC K C_Facts a_Facts_contains
  a_Facts_or : Addr
  fd_Facts_or : FuncData
  F_Facts_or : Fun K "__or__" "Facts.__or__" s_Facts_or a_Facts_or fd_Facts_or
  b_Facts_or : Binds K fd_Facts_or p_Facts_or []
  m_Facts_or : Meth K C_Facts "__or__" a_Facts_or
  a_Facts_broken : Addr
  fd_Facts_broken : FuncData
  F_Facts_broken : Fun K "broken" "Facts.broken" s_Facts_broken a_Facts_broken fd_Facts_broken
  b_Facts_broken : Binds K fd_Facts_broken p_Facts_broken []
  m_Facts_broken : Meth K C_Facts "broken" a_Facts_broken
  a_Facts_are_over : Addr
  fd_Facts_are_over : FuncData
  F_Facts_are_over : Fun K "are_over" "Facts.are_over" s_Facts_are_over a_Facts_are_over fd_Facts_are_over
  b_Facts_are_over : Binds K fd_Facts_are_over p_Facts_are_over []
  m_Facts_are_over : Meth K C_Facts "are_over" a_Facts_are_over
  a_Facts_as_read : Addr
  fd_Facts_as_read : FuncData
  F_Facts_as_read : Fun K "as_read" "Facts.as_read" s_Facts_as_read a_Facts_as_read fd_Facts_as_read
  b_Facts_as_read : Binds K fd_Facts_as_read p_Facts_as_read []
  m_Facts_as_read : Meth K C_Facts "as_read" a_Facts_as_read
  a_Facts_implies : Addr
  fd_Facts_implies : FuncData
  F_Facts_implies : Fun K "implies" "Facts.implies" s_Facts_implies a_Facts_implies fd_Facts_implies
  b_Facts_implies : Binds K fd_Facts_implies p_Facts_implies []
  m_Facts_implies : Meth K C_Facts "implies" a_Facts_implies
  a_Schema_init : Addr
  fd_Schema_init : FuncData
  F_Schema_init : Fun K "__init__" "Schema.__init__" s_Schema_init a_Schema_init fd_Schema_init
  b_Schema_init : Binds K fd_Schema_init p_Schema_init []
  mk_Schema : Mk K C_Schema a_Schema_init
  a_Schema_columns : Addr
  fd_Schema_columns : FuncData
  F_Schema_columns : Fun K "columns" "Schema.columns" s_Schema_columns a_Schema_columns fd_Schema_columns
  b_Schema_columns : Binds K fd_Schema_columns p_Schema_columns []
  m_Schema_columns : Meth K C_Schema "columns" a_Schema_columns
  a_Schema_fits : Addr
  fd_Schema_fits : FuncData
  F_Schema_fits : Fun K "fits" "Schema.fits" s_Schema_fits a_Schema_fits fd_Schema_fits
  b_Schema_fits : Binds K fd_Schema_fits p_Schema_fits []
  m_Schema_fits : Meth K C_Schema "fits" a_Schema_fits
  a_Schema_check : Addr
  fd_Schema_check : FuncData
  F_Schema_check : Fun K "check" "Schema.check" s_Schema_check a_Schema_check fd_Schema_check
  b_Schema_check : Binds K fd_Schema_check p_Schema_check []
  m_Schema_check : Meth K C_Schema "check" a_Schema_check
  a_declared_tables : Addr
  fd_declared_tables : FuncData
  F_declared_tables : Fun K "declared_tables" "declared_tables" s_declared_tables a_declared_tables fd_declared_tables
  b_declared_tables : Binds K fd_declared_tables p_declared_tables []
  g_declared_tables : mg "declared_tables" = some (.ref a_declared_tables)
  a_is_table_line : Addr
  fd_is_table_line : FuncData
  F_is_table_line : Fun K "is_table_line" "is_table_line" s_is_table_line a_is_table_line fd_is_table_line
  b_is_table_line : Binds K fd_is_table_line p_is_table_line []
  c_is_table_line : Addr
  P_is_table_line : Addr
  t_is_table_line : fd_is_table_line.code = .ref c_is_table_line
  tb_is_table_line : PySem.W.tabIn K "is_table_line" = some (c_is_table_line, P_is_table_line)
  tn_is_table_line : K.lookup P_is_table_line = none
  g_is_table_line : mg "is_table_line" = some (.ref a_is_table_line)
  a_are_rows : Addr
  fd_are_rows : FuncData
  F_are_rows : Fun K "are_rows" "are_rows" s_are_rows a_are_rows fd_are_rows
  b_are_rows : Binds K fd_are_rows p_are_rows []
  c_are_rows : Addr
  P_are_rows : Addr
  t_are_rows : fd_are_rows.code = .ref c_are_rows
  tb_are_rows : PySem.W.tabIn K "are_rows" = some (c_are_rows, P_are_rows)
  tn_are_rows : K.lookup P_are_rows = none
  g_are_rows : mg "are_rows" = some (.ref a_are_rows)
  a_is_row : Addr
  fd_is_row : FuncData
  F_is_row : Fun K "is_row" "is_row" s_is_row a_is_row fd_is_row
  b_is_row : Binds K fd_is_row p_is_row []
  c_is_row : Addr
  P_is_row : Addr
  t_is_row : fd_is_row.code = .ref c_is_row
  tb_is_row : PySem.W.tabIn K "is_row" = some (c_is_row, P_is_row)
  tn_is_row : K.lookup P_is_row = none
  g_is_row : mg "is_row" = some (.ref a_is_row)
  a_is_integer : Addr
  fd_is_integer : FuncData
  F_is_integer : Fun K "is_integer" "is_integer" s_is_integer a_is_integer fd_is_integer
  b_is_integer : Binds K fd_is_integer p_is_integer []
  g_is_integer : mg "is_integer" = some (.ref a_is_integer)
  a_begun_pen : Addr
  fd_begun_pen : FuncData
  F_begun_pen : Fun K "_law_begun_pen" "_law_begun_pen" s_begun_pen a_begun_pen fd_begun_pen
  b_begun_pen : Binds K fd_begun_pen p_begun_pen []
  g_begun_pen : mg "_law_begun_pen" = some (.ref a_begun_pen)
  a_draw : Addr
  fd_draw : FuncData
  F_draw : Fun K "_law_draw" "_law_draw" s_draw a_draw fd_draw
  b_draw : Binds K fd_draw p_draw []
  g_draw : mg "_law_draw" = some (.ref a_draw)
  a_pick : Addr
  fd_pick : FuncData
  F_pick : Fun K "_law_pick" "_law_pick" s_pick a_pick fd_pick
  b_pick : Binds K fd_pick p_pick []
  g_pick : mg "_law_pick" = some (.ref a_pick)
  a_shuffled : Addr
  fd_shuffled : FuncData
  F_shuffled : Fun K "_law_shuffled" "_law_shuffled" s_shuffled a_shuffled fd_shuffled
  b_shuffled : Binds K fd_shuffled p_shuffled []
  g_shuffled : mg "_law_shuffled" = some (.ref a_shuffled)
  a_new_names : Addr
  fd_new_names : FuncData
  F_new_names : Fun K "_law_new_names" "_law_new_names" s_new_names a_new_names fd_new_names
  b_new_names : Binds K fd_new_names p_new_names []
  g_new_names : mg "_law_new_names" = some (.ref a_new_names)
  a_columns : Addr
  fd_columns : FuncData
  F_columns : Fun K "_law_columns" "_law_columns" s_columns a_columns fd_columns
  b_columns : Binds K fd_columns p_columns []
  g_columns : mg "_law_columns" = some (.ref a_columns)
  a_new_integer : Addr
  fd_new_integer : FuncData
  F_new_integer : Fun K "_law_new_integer" "_law_new_integer" s_new_integer a_new_integer fd_new_integer
  b_new_integer : Binds K fd_new_integer p_new_integer []
  g_new_integer : mg "_law_new_integer" = some (.ref a_new_integer)
  a_new_rows : Addr
  fd_new_rows : FuncData
  F_new_rows : Fun K "_law_new_rows" "_law_new_rows" s_new_rows a_new_rows fd_new_rows
  b_new_rows : Binds K fd_new_rows p_new_rows []
  g_new_rows : mg "_law_new_rows" = some (.ref a_new_rows)
  a_lawkeeps : Addr
  fd_lawkeeps : FuncData
  F_lawkeeps : Fun K "_law_keeps" "_law_keeps" s_lawkeeps a_lawkeeps fd_lawkeeps
  b_lawkeeps : Binds K fd_lawkeeps p_lawkeeps []
  g_lawkeeps : mg "_law_keeps" = some (.ref a_lawkeeps)
  a_drawn_tables : Addr
  fd_drawn_tables : FuncData
  F_drawn_tables : Fun K "_law_drawn_tables" "_law_drawn_tables" s_drawn_tables a_drawn_tables fd_drawn_tables
  b_drawn_tables : Binds K fd_drawn_tables p_drawn_tables []
  g_drawn_tables : mg "_law_drawn_tables" = some (.ref a_drawn_tables)
  a_schema_text : Addr
  fd_schema_text : FuncData
  F_schema_text : Fun K "_law_schema_text" "_law_schema_text" s_schema_text a_schema_text fd_schema_text
  b_schema_text : Binds K fd_schema_text p_schema_text []
  g_schema_text : mg "_law_schema_text" = some (.ref a_schema_text)
  a_spot : Addr
  fd_spot : FuncData
  F_spot : Fun K "_law_spot" "_law_spot" s_spot a_spot fd_spot
  b_spot : Binds K fd_spot p_spot []
  g_spot : mg "_law_spot" = some (.ref a_spot)
  a_new_fact : Addr
  fd_new_fact : FuncData
  F_new_fact : Fun K "_law_new_fact" "_law_new_fact" s_new_fact a_new_fact fd_new_fact
  b_new_fact : Binds K fd_new_fact p_new_fact []
  g_new_fact : mg "_law_new_fact" = some (.ref a_new_fact)
  a_new_facts : Addr
  fd_new_facts : FuncData
  F_new_facts : Fun K "_law_new_facts" "_law_new_facts" s_new_facts a_new_facts fd_new_facts
  b_new_facts : Binds K fd_new_facts p_new_facts []
  g_new_facts : mg "_law_new_facts" = some (.ref a_new_facts)
  a_told_table : Addr
  fd_told_table : FuncData
  F_told_table : Fun K "_law_told_table" "_law_told_table" s_told_table a_told_table fd_told_table
  b_told_table : Binds K fd_told_table p_told_table []
  g_told_table : mg "_law_told_table" = some (.ref a_told_table)
  a_nearly_kept : Addr
  fd_nearly_kept : FuncData
  F_nearly_kept : Fun K "_law_nearly_kept" "_law_nearly_kept" s_nearly_kept a_nearly_kept fd_nearly_kept
  b_nearly_kept : Binds K fd_nearly_kept p_nearly_kept []
  g_nearly_kept : mg "_law_nearly_kept" = some (.ref a_nearly_kept)
  a_refusals_right : Addr
  fd_refusals_right : FuncData
  F_refusals_right : Fun K "_law_refusals_right" "_law_refusals_right" s_refusals_right a_refusals_right fd_refusals_right
  b_refusals_right : Binds K fd_refusals_right p_refusals_right []
  g_refusals_right : mg "_law_refusals_right" = some (.ref a_refusals_right)
  a_law : Addr
  fd_law : FuncData
  F_law : Fun K "law" "law" s_law a_law fd_law
  b_law : Binds K fd_law p_law []
  g_law : mg "law" = some (.ref a_law)
/-- the tables of code objects, over the base -/
structure TB {K : PySem.W.Frag} {mg : Str → Option Value} (T : TX K mg) (base : Heap) : Prop where
  b_is_name : LamX.TabB base mg T.c_is_name T.P_is_name
  b_leads_back : LamX.TabB base mg T.c_leads_back T.P_leads_back
  b_is_table_line : LamX.TabB base mg T.c_is_table_line T.P_is_table_line
  b_are_rows : LamX.TabB base mg T.c_are_rows T.P_are_rows
  b_is_row : LamX.TabB base mg T.c_is_row T.P_is_row
def tabsOf {K : PySem.W.Frag} {mg : Str → Option Value} (T : TX K mg) : List Addr := [T.P_is_name, T.P_leads_back, T.P_is_table_line, T.P_are_rows, T.P_is_row]

end L2.Pf
set_option maxHeartbeats 2000000
namespace L2.Pf
open PySem PySem.Spec PyProof.Rows L2.Ev L2.Tpd L2.Seti L2.Gq L2.Enf L2.Sett L2.Itr L2.Dls L2.Own
section
variable {P : Program} {w : World} {K : PySem.W.Frag} {mg : Str → Option Value} {base : Heap}
/-! ### words.py -/
/-- the lines of a text -/
def linesOf (x : Str) : List Str := if x = ("" : Str) then [] else Txt.split x "\n"
def sp_lines_of : Sp := fun vs H Q _ => ∃ x : Str, vs = [.str x] ∧ x.length ≤ 10000 ∧ ∀ p H', H p = none → Same H H' → H' p = some (.lst ((linesOf x).map V.str)) → Q (.ref p) H'
theorem ok_lines_of (T : TX K mg) (B : TB T base) : FnOk P w K mg base CX0 1 T.a_lines_of T.fd_lines_of p_lines_of sp_lines_of := by
  refine T.F_lines_of.ok sc_lines_of (fun vs H Q E h => ?_) (fun cdv A outer s H vs Q E hr h => ?_)
  · obtain ⟨x, rfl, _⟩ := h
    rfl
  · obtain ⟨x, rfl, hl, k⟩ := h
    refine ⟨_, (pss_cons (ps_if (pt_cmpR op_eq (pv 0) pe_str (nomark _)) (pss_one (ps_ret (pe_lstS pa_nil))) pss_nil)
  (pss_one (ps_ret (pe_split (pv 0) pe_str)))), ?_⟩
    refine ⟨_, rfl, rfl, _, rfl, ?_⟩
    by_cases e : V.str x = V.str ("" : Str)
    · rw [decide_eq_true e]
      have e2 : x = ("" : Str) := by cases e; rfl
      have k2 := k
      unfold linesOf at k2
      rw [if_pos e2] at k2
      exact iteT ⟨Nat.zero_le _, k2⟩
    · rw [decide_eq_false e]
      have e2 : x ≠ ("" : Str) := fun z => e (by rw [z])
      have k2 := k
      unfold linesOf at k2
      rw [if_neg e2] at k2
      refine iteF ⟨_, rfl, ⟨_, rfl⟩, x, _, rfl, rfl, by decide, ?_, fun p hp => k2 p _ hp (Same.new (Same.refl H) hp) upd_same⟩
      exact Nat.le_trans (Nat.add_le_add_right hl 2) (by show 10000 + 2 ≤ sizeLine; decide)
def sp_words_of : Sp := fun vs H Q _ => ∃ x : Str, vs = [.str x] ∧ x.length ≤ 10000 ∧ ∀ p H', H p = none → Same H H' → H' p = some (.lst ((Txt.split x " ").map V.str)) → Q (.ref p) H'
theorem ok_words_of (T : TX K mg) (B : TB T base) : FnOk P w K mg base CX0 1 T.a_words_of T.fd_words_of p_words_of sp_words_of := by
  refine T.F_words_of.ok sc_words_of (fun vs H Q E h => ?_) (fun cdv A outer s H vs Q E hr h => ?_)
  · obtain ⟨x, rfl, _⟩ := h
    rfl
  · obtain ⟨x, rfl, hl, k⟩ := h
    refine ⟨_, (pss_one (ps_ret (pe_split (pv 0) pe_str))), ?_⟩
    refine ⟨_, rfl, ⟨_, rfl⟩, x, _, rfl, rfl, by decide, ?_, fun p hp => k p _ hp (Same.new (Same.refl H) hp) upd_same⟩
    exact Nat.le_trans (Nat.add_le_add_right hl 2) (by show 10000 + 2 ≤ sizeLine; decide)
/-- a word that may be a name -/
def inLetters (x : Str) : Bool := !(Builtin.Str.occurrences ("abcdefghijklmnopqrstuvwxyz" : Str) x 0 ("abcdefghijklmnopqrstuvwxyz" : Str).length 1).isEmpty
def lettersAll (x : Str) : Bool := (List.range x.cps.size).all fun i => inLetters ⟨#[x.cps.getD i 0]⟩
theorem const_tup {H : Hp} {a : Addr} {xs : List V} (h : ∃ (dd : Option Addr) (n : Nat) (sl : Array (Option Value)) (us : List Value), Vals xs us ∧ K.lookup a = some ⟨.type "tuple", dd, .seq us.toArray n, sl⟩) (hl : xs.length ≤ 1000) : SqT K H a xs := by
  obtain ⟨dd, n, sl, us, r, e⟩ := h
  refine .inr ⟨_, us.toArray, n, e, rfl, rfl, ?_, by simpa using r⟩
  have z := r.length
  rw [List.size_toArray, ← z]
  exact Nat.le_of_lt (small1000 hl)
def isName (x : Str) : Bool := !(decide (x.length < 1) || decide (12 < x.length) || inV (.str x) k_RESERVED) && lettersAll x
def sp_is_name (P : Addr) : Sp := fun vs H Q _ => ∃ x : Str, vs = [.str x] ∧ x.length ≤ 10000 ∧ H P = some (TabX P) ∧ Q (.bl (isName x)) H
theorem ok_is_name (T : TX K mg) (B : TB T base) : FnOk P w K mg base CX0 2 T.a_is_name T.fd_is_name p_is_name (sp_is_name T.P_is_name) := by
  refine Fun.okC T.F_is_name T.t_is_name sc_is_name (fun vs H Q E h => ?_) (fun A outer s H vs Q E hr h => ?_)
  · obtain ⟨x, rfl, _⟩ := h
    rfl
  · obtain ⟨x, rfl, hl, hP, k⟩ := h
    refine ⟨_, (pss_join (ps_if (PW.pt (pw_or (pt_cmpR op_lt (pe_callB call_len_str (by rfl) T.z_len (by decide +kernel) (pa_cons (pv 0) pa_nil)) pe_int (nomark _)) (pw_or (pt_cmpR op_gt (pe_callB call_len_str (by rfl) T.z_len (by decide +kernel) (pa_cons (pv 0) pa_nil)) (pe_globI rfl T.c_LONGEST_NAME) (nomark _)) (pw_or1 (pt_cmpR op_in_seq (pv 0) (pe_glob (v := .ref T.a_RESERVED) rfl T.c_RESERVED rfl) (by rfl)))))) (pss_one (ps_ret pe_bl)) pss_nil)
  (pss_one (ps_ret (pe_allQ (own := [("letter", 1)]) (gt := gName 1) (tt := tYes) hr (by rfl) T.z_all (by decide +kernel) B.b_is_name rfl ⟨blkOk_by (own := [("letter", 1)]) (N := n_is_name) (sc := defScope s_is_name) (by decide +kernel), rfl, by decide +kernel, rfl⟩ sc_is_name.nd (pi_str (pv 0)) (fun _ _ _ _ _ _ _ hr => (pg_name (i := 1) sc_is_name.nd rfl (Or.inl rfl))) (fun _ _ _ _ _ _ _ hr => pts_nil) (fun _ _ _ _ _ _ _ hr => (pe_cmpR op_in_str (pv 1) (pe_globS rfl T.c_LETTERS) (by rfl))))))), ?_⟩
    have hz : x.length ≤ sizeLine := Nat.le_trans hl (by decide)
    have hT : SqT K H T.a_RESERVED k_RESERVED := const_tup T.v_RESERVED (by decide)
    refine ⟨fun σ' H' => σ' = [some (.str x), none] ∧ H' = H ∧ (decide (x.length < 1) || decide (12 < x.length) || inV (.str x) k_RESERVED) = false, ⟨_, rfl, x, rfl, hz, _, _, rfl, rfl, _, rfl, ?_⟩, ?_⟩
    · by_cases h1 : ((x.length : Nat) : Int) < 1
      · rw [decide_eq_true h1]
        have e : isName x = false := by
          unfold isName
          rw [decide_eq_true (show x.length < 1 by omega)]; rfl
        rw [e] at k
        exact iteT (iteT k)
      · rw [decide_eq_false h1]
        refine iteF ⟨_, rfl, x, rfl, hz, _, _, rfl, rfl, _, rfl, ?_⟩
        by_cases h2 : (12 : Int) < ((x.length : Nat) : Int)
        · rw [decide_eq_true h2]
          have e : isName x = false := by
            unfold isName
            rw [decide_eq_true (show 12 < x.length by omega), Bool.or_true]; rfl
          rw [e] at k
          exact iteT (iteT k)
        · rw [decide_eq_false h2]
          refine iteF ⟨_, rfl, _, k_RESERVED, rfl, .inr hT, rfl, by decide, _, rfl, ?_⟩
          cases h3 : inV (.str x) k_RESERVED with
          | true =>
            have e : isName x = false := by
              unfold isName
              rw [h3, Bool.or_true]; rfl
            rw [e] at k
            exact iteT k
          | false =>
            exact iteF ⟨rfl, rfl, by rw [decide_eq_false (show ¬ x.length < 1 by omega), decide_eq_false (show ¬ 12 < x.length by omega)]; rfl⟩
    · rintro σ' H' ⟨rfl, rfl, hc⟩
      refine ⟨_, rfl, x, rfl, hP, q_turns (n := x.cps.size) (fun i => inLetters ⟨#[x.cps.getD i 0]⟩) (fun _ H2 => H2 = H') rfl (fun _ _ => Nat.le_refl _) (fun i _ hi _ => hi) (fun i v H2 H3 Qc hi e y hq => ?_) (fun H2 e hf => ?_) (fun i H2 hi e hf hb => ?_)⟩
      · subst e
        obtain ⟨eH, c, ec, ev⟩ := y
        subst ev eH
        have e1 : x.cps.getD i 0 = c := by
          rw [Array.getD_eq_getD_getElem?, ec]; rfl
        have hq := hq H3 rfl
        rw [e1] at hq
        exact ⟨rfl, _, rfl, _, _, rfl, rfl, hq⟩
      · subst e
        have e : isName x = true := by
          unfold isName
          rw [hc]
          exact all_answer hf
        rw [e] at k
        exact k
      · subst e
        have e : isName x = false := by
          unfold isName
          rw [hc]
          exact all_not hi hf
        rw [e] at k
        exact k
end
end L2.Pf
set_option maxHeartbeats 2000000
namespace L2.Pf
open PySem PySem.Spec PyProof.Rows L2.Ev L2.Tpd L2.Seti L2.Gq L2.Enf L2.Sett L2.Itr L2.Dls L2.Own
section
variable {P : Program} {w : World} {K : PySem.W.Frag} {mg : Str → Option Value} {base : Heap}
theorem cut_from (xs : List V) {z : Int} {k : Nat} (e : z = (k : Int)) : cutV xs (some z) none = xs.drop k := by
  subst e
  unfold cutV
  rw [HT.sIx_none, HT.sIx_nat]
  by_cases h : k ≤ xs.length
  · rw [Nat.min_eq_left h, List.take_of_length_le (by rw [List.length_drop]; omega)]
  · rw [Nat.min_eq_right (by omega), List.drop_of_length_le (Nat.le_refl _), List.drop_of_length_le (by omega), List.take_nil]
theorem atI_nat {xs : List V} {k : Nat} {v : V} (h : xs[k]? = some v) : atI xs (k : Int) = some v := by
  have hk := (List.getElem?_eq_some_iff.mp h).1
  unfold atI ixN
  rw [if_pos (by omega), if_pos (by omega)]
  show xs[((k : Nat) : Int).toNat]? = _
  rw [Int.toNat_natCast]; exact h
/-- a line's words that declare a table -/
def isTableLine (xs : List Str) : Bool :=
  !(!decide (xs.getD 0 Str.empty = ("table" : Str)) || decide (xs.length < 3) || decide (5 < xs.length)) && ((List.range (xs.drop 1).length).all fun i => isName ((xs.drop 1).getD i Str.empty)) && decide (met (xs.drop 2) (xs.drop 2).length = (xs.drop 2).length)
def sp_is_table_line (K : PySem.W.Frag) (P1 P2 : Addr) : Sp := fun vs H Q _ => ∃ (l : Addr) (xs : List Str), vs = [.ref l] ∧ SqL K H l (xs.map V.str) ∧ xs ≠ [] ∧ xs.length ≤ 10000 ∧ (∀ x ∈ xs, x.length ≤ 10000) ∧ H P1 = some (TabX P1) ∧ H P2 = some (TabX P2) ∧
  ∀ H', Same H H' → Q (.bl (isTableLine xs)) H'
theorem ok_is_table_line (T : TX K mg) (B : TB T base) : FnOk P w K mg base CX0 4 T.a_is_table_line T.fd_is_table_line p_is_table_line (sp_is_table_line K T.P_is_name T.P_is_table_line) := by
  refine Fun.okC T.F_is_table_line T.t_is_table_line sc_is_table_line (fun vs H Q E h => ?_) (fun A outer s H vs Q E hr h => ?_)
  · obtain ⟨l, xs, rfl, _⟩ := h
    rfl
  · obtain ⟨l, xs, rfl, hS, hne, hlen, hx, hP1, hP2, k⟩ := h
    refine ⟨_, (pss_join (ps_if (PW.pt (pw_or (pt_cmpR op_ne (pe_ix ix_list (pv 0) pe_int (fun _ _ => rfl)) pe_str (nomark _)) (pw_or (pt_cmpR op_lt (pe_callB call_len_seq (by rfl) T.z_len (by decide +kernel) (pa_cons (pv 0) pa_nil)) pe_int (nomark _)) (pw_or1 (pt_cmpR op_gt (pe_callB call_len_seq (by rfl) T.z_len (by decide +kernel) (pa_cons (pv 0) pa_nil)) (pe_op op_add pe_int (pe_globI rfl T.c_MOST_COLUMNS)) (nomark _)))))) (pss_one (ps_ret pe_bl)) pss_nil)
  (pss_cons (ps_set (i := 1) sc_is_table_line.nd rfl (Or.inl rfl) (pe_slice (sl_listS (K := K)) (pv 0) (po_some pe_int) po_none))
  (pss_one (ps_ret (pe_and (pe_allQ (own := [("word", 2)]) (gt := gName 2) (tt := tYes) hr (by rfl) T.z_all (by decide +kernel) B.b_is_table_line rfl ⟨blkOk_by (own := [("word", 2)]) (N := n_is_table_line) (sc := defScope s_is_table_line) (by decide +kernel), rfl, by decide +kernel, rfl⟩ sc_is_table_line.nd (pi_list (pe_slice (sl_listS (K := K)) (pv 0) (po_some pe_int) po_none)) (fun _ _ _ _ _ _ _ hr => (pg_name (i := 2) sc_is_table_line.nd rfl (Or.inl rfl))) (fun _ _ _ _ _ _ _ hr => pts_nil) (fun _ _ _ _ _ _ _ hr => (pe_call (ok_is_name T B) (hr.mono (by decide)) rfl T.g_is_name T.F_is_name.kp T.b_is_name .nil pass0 (pa_cons (pv 2) pa_nil)))) (pe_one (pe_cmpR op_eq (pe_lenSetT rfl (by rfl) T.z_len (by rfl) T.z_set (pv 1)) (pe_callB call_len_seq (by rfl) T.z_len (by decide +kernel) (pa_cons (pv 1) pa_nil)) (nomark _)))))))), ?_⟩
    obtain ⟨y, ys, rfl⟩ : ∃ y ys, xs = y :: ys := by
      cases xs with
      | nil => exact absurd rfl hne
      | cons y ys => exact ⟨y, ys, rfl⟩
    generalize hxs : y :: ys = xs at *
    have hy : xs[0]? = some y := by rw [← hxs]; rfl
    have hgd : xs.getD 0 Str.empty = y := by rw [← hxs]; rfl
    have hml : (xs.map V.str).length = xs.length := List.length_map ..
    have no : ∀ b : Bool, (!decide (y = ("table" : Str)) || decide (xs.length < 3) || decide (5 < xs.length)) = true → isTableLine xs = false := fun _ e => by
      unfold isTableLine
      rw [hgd, e]; rfl
    refine ⟨fun σ' H' => σ' = [some (.ref l), none, none] ∧ H' = H ∧ (!decide (y = ("table" : Str)) || decide (xs.length < 3) || decide (5 < xs.length)) = false,
      ⟨_, rfl, l, _, 0, .str y, rfl, rfl, hS, atI_nat (k := 0) (by rw [List.getElem?_map, hy]; rfl), rfl, _, rfl, ?_⟩, ?_⟩
    · by_cases h1 : V.str y = V.str ("table" : Str)
      · have e1 : y = ("table" : Str) := by cases h1; rfl
        rw [decide_eq_true h1]
        refine iteF ⟨_, rfl, l, _, rfl, .inl hS, _, _, rfl, rfl, _, rfl, ?_⟩
        rw [hml]
        by_cases h2 : ((xs.length : Nat) : Int) < 3
        · rw [decide_eq_true h2]
          refine iteT (iteT ?_)
          have z := k H (Same.refl H)
          rw [no true (by rw [decide_eq_true (show xs.length < 3 by omega)]; simp)] at z
          exact z
        · rw [decide_eq_false h2]
          refine iteF ⟨_, rfl, l, _, rfl, .inl hS, _, _, rfl, rfl, _, _, rfl, rfl, _, rfl, ?_⟩
          rw [hml]
          by_cases h3 : (2 + 3 : Int) < ((xs.length : Nat) : Int)
          · rw [decide_eq_true h3]
            refine iteT ?_
            have z := k H (Same.refl H)
            rw [no true (by rw [decide_eq_true (show 5 < xs.length by omega)]; simp)] at z
            exact z
          · rw [decide_eq_false h3]
            exact iteF ⟨rfl, rfl, by rw [decide_eq_true e1, decide_eq_false (show ¬ xs.length < 3 by omega), decide_eq_false (show ¬ 5 < xs.length by omega)]; rfl⟩
      · have e1 : ¬ y = ("table" : Str) := fun e => h1 (by rw [e])
        rw [decide_eq_false h1]
        refine iteT (iteT ?_)
        have z := k H (Same.refl H)
        rw [no true (by rw [decide_eq_false e1]; simp)] at z
        exact z
    · rintro σ' H' ⟨rfl, rfl, hc⟩
      refine ⟨_, rfl, _, rfl, l, _, rfl, hS, fun p H2 hp s2 e2 => ?_⟩
      have ed : cutV (List.map V.str xs) (some 2) none = (xs.drop 2).map V.str := by rw [cut_from _ (z := 2) (k := 2) rfl, List.map_drop]
      have ec : cutV (List.map V.str xs) (some 1) none = (xs.drop 1).map V.str := by rw [cut_from _ (z := 1) (k := 1) rfl, List.map_drop]
      rw [ed] at e2
      have hS2 := s2.seq hS
      refine ⟨_, rfl, _, rfl, l, _, rfl, hS2, fun q H3 hq s3 e3 => ⟨q, rfl, ⟨_, SqL.of e3⟩, s3 _ _ (s2 _ _ hP2), ?_⟩⟩
      rw [ec] at e3
      have s13 := s2.trans s3
      have e23 := s3 _ _ e2
      have fin : ∀ b, isTableLine xs = b → Q (.bl b) H3 := fun b e => by
        rw [← e]; exact k H3 s13
      have one : isTableLine xs = (((List.range (xs.drop 1).length).all fun i => isName ((xs.drop 1).getD i Str.empty)) && decide (met (xs.drop 2) (xs.drop 2).length = (xs.drop 2).length)) := by
        unfold isTableLine
        rw [hgd, hc]; rfl
      refine q_turns (n := (xs.drop 1).length) (fun i => isName ((xs.drop 1).getD i Str.empty)) (fun _ H4 => H4 = H3) rfl (fun H4 e => ?_) (fun i H4 hi e => ?_) (fun i v H4 H5 Qc hi e y hq => ?_) (fun H4 e hf => ?_) (fun i H4 hi e hf hb => ?_)
      · subst e
        exact ⟨_, SqL.of e3, by rw [List.length_map]; exact Nat.le_refl _⟩
      · subst e
        exact ⟨_, V.str ((xs.drop 1)[i]), SqL.of e3, by rw [List.getElem?_map, List.getElem?_eq_getElem hi]; rfl⟩
      · subst e
        obtain ⟨eH, ev⟩ := y
        have ev := ev _ (SqL.of e3)
        have eg : (xs.drop 1).getD i Str.empty = (xs.drop 1)[i] := by rw [List.getD_eq_getElem?_getD, List.getElem?_eq_getElem hi]; rfl
        rw [List.getElem?_map, List.getElem?_eq_getElem hi] at ev
        cases ev
        subst eH
        have hm : (xs.drop 1)[i] ∈ xs := List.mem_of_mem_drop (List.getElem_mem hi)
        have hq := hq _ rfl
        rw [eg] at hq
        exact ⟨rfl, _, rfl, _, rfl, hx _ hm, s13 _ _ hP1, hq⟩
      · subst e
        refine ⟨_, rfl, iteT ⟨_, rfl, p, xs.drop 2, rfl, SqL.of e23, ?_, _, rfl, p, _, rfl, .inl (SqL.of e23), rfl, ?_⟩⟩
        · rw [List.length_drop]
          have : scanBound = 4096 := rfl
          simp only [Bool.or_eq_false_iff, decide_eq_false_iff_not] at hc
          omega
        · refine fin _ ?_
          rw [one, all_answer hf, Bool.true_and]
          by_cases h : met (xs.drop 2) (xs.drop 2).length = (xs.drop 2).length
          · rw [decide_eq_true h, decide_eq_true (by rw [List.length_map, h])]
          · rw [decide_eq_false h, decide_eq_false]
            intro z
            rw [List.length_map] at z
            have z2 := V.int.inj z
            omega
      · subst e
        refine ⟨_, rfl, iteF (fin _ ?_)⟩
        rw [one, all_not hi hf]; rfl
end
end L2.Pf
set_option maxHeartbeats 2000000
namespace L2.Pf
open PySem PySem.Spec PyProof.Rows L2.Ev L2.Tpd L2.Seti L2.Gq L2.Enf L2.Sett L2.Itr L2.Dls L2.Own
section
variable {P : Program} {w : World} {K : PySem.W.Frag} {mg : Str → Option Value} {base : Heap}
/-- the table that a line declares -/
def tabOf (line : Str) : Str × List Str := ((Txt.split line " ").getD 1 Str.empty, (Txt.split line " ").drop 2)
/-- the columns by the table, as the dict holds them -/
def ColsAt (H : Hp) : List (Key × V) → List (Str × List Str) → Prop := Paired fun kv t => kv.1 = .inr t.1 ∧ ∃ q, kv.2 = .ref q ∧ TupN H q (t.2.map V.str)
theorem ColsAt.keep {H H' : Hp} {kvs : List (Key × V)} {ts : List (Str × List Str)} (h : ColsAt H kvs ts) (k : ∀ q o xs, H q = some (.frz o (.tup xs)) → H' q = some (.frz o (.tup xs))) : ColsAt H' kvs ts :=
  Paired.mapP h fun _ _ ⟨e, q, e2, e3⟩ => ⟨e, q, e2, e3.keep k⟩
theorem paired_snoc {α β : Type} {F : α → β → Prop} : ∀ {l : List α} {r : List β} {a : α} {b : β}, Paired F l r → F a b → Paired F (l ++ [a]) (r ++ [b])
  | _, _, _, _, .nil, f => .cons f .nil
  | _, _, _, _, .cons g t, f => .cons g (paired_snoc t f)
theorem ColsAt.no {H : Hp} {kvs : List (Key × V)} {ts : List (Str × List Str)} (h : ColsAt H kvs ts) {y : Str} (hn : y ∉ ts.map (·.1)) : valV kvs (.inr y) = none ∧ (kvs.any fun kv => decide (kv.1 = Sum.inr y)) = false := by
  induction h with
  | nil => exact ⟨rfl, rfl⟩
  | cons g t ih =>
    rw [List.map_cons, List.mem_cons, not_or] at hn
    obtain ⟨i1, i2⟩ := ih hn.2
    rename_i a b l r
    have ne : ¬ a.1 = Sum.inr y := fun e => by
      rw [g.1] at e
      exact hn.1 (Sum.inr.inj e).symm
    refine ⟨?_, by rw [List.any_cons, i2, decide_eq_false ne]; rfl⟩
    unfold valV at i1 ⊢
    rw [List.find?_cons, decide_eq_false ne]
    exact i1
structure GoodText (x : Str) : Prop where
  len : x.length ≤ 10000
  ne : linesOf x ≠ []
  few : (linesOf x).length ≤ 4
  size : ∀ l ∈ linesOf x, l.length ≤ 10000 ∧ (Txt.split l " ").length ≤ 10000 ∧ ∀ y ∈ Txt.split l " ", y.length ≤ 10000
  ok : ∀ l ∈ linesOf x, isTableLine (Txt.split l " ") = true
  nd : ((linesOf x).map fun l => (tabOf l).1).Nodup
def sp_declared_tables (K : PySem.W.Frag) (P1 P2 : Addr) : Sp := fun vs H Q _ => ∃ x : Str, vs = [.str x] ∧ GoodText x ∧ H P1 = some (TabX P1) ∧ H P2 = some (TabX P2) ∧
  ∀ d o kvs H', H d = none → Same H H' → H' d = some (.frz o (.dK kvs)) → ColsAt H' kvs ((linesOf x).map tabOf) → Q (.ref d) H'
theorem ok_declared_tables (T : TX K mg) (B : TB T base) : FnOk P w K mg base CX0 5 T.a_declared_tables T.fd_declared_tables p_declared_tables (sp_declared_tables K T.P_is_name T.P_is_table_line) := by
  refine T.F_declared_tables.ok sc_declared_tables (fun vs H Q E h => ?_) (fun cdv A outer s H vs Q E hr h => ?_)
  · obtain ⟨x, rfl, _⟩ := h
    rfl
  · obtain ⟨x, rfl, G, hP1, hP2, k⟩ := h
    refine ⟨_, (pss_cons (ps_set (i := 1) sc_declared_tables.nd rfl (Or.inl rfl) (pe_call (ok_lines_of T B) (hr.mono (by decide)) rfl T.g_lines_of T.F_lines_of.kp T.b_lines_of .nil pass0 (pa_cons (pv 0) pa_nil)))
  (pss_cons (ps_if (pt_not (pt_truth (pv 1) (by intro _; rfl))) (pss_one ps_never) pss_nil)
  (pss_cons (ps_set (i := 2) sc_declared_tables.nd rfl (Or.inl rfl) pe_dnewK)
  (pss_cons (ps_for PassesOwn.never rfl (pi_from (k := 1) (by rfl) T.z_enumerate (pa_cons (pv 1) pa_nil) (by decide)) (pg_tup rfl (pgs_cons (pg_name (i := 3) sc_declared_tables.nd rfl (Or.inl rfl)) (pgs_cons (pg_name (i := 4) sc_declared_tables.nd rfl (Or.inl rfl)) pgs_nil))) (pss_cons (ps_set (i := 5) sc_declared_tables.nd rfl (Or.inl rfl) (pe_call (ok_words_of T B) (hr.mono (by decide)) rfl T.g_words_of T.F_words_of.kp T.b_words_of .nil pass0 (pa_cons (pv 4) pa_nil)))
  (pss_join (ps_if (PW.pt (pw_or (pt_cmpR op_gt (pv 3) (pe_globI rfl T.c_MOST_TABLES) (nomark _)) (pw_or (pt_not (pt_val (pe_call (ok_is_table_line T B) (hr.mono (by decide)) rfl T.g_is_table_line T.F_is_table_line.kp T.b_is_table_line .nil pass0 (pa_cons (pv 5) pa_nil)))) (pw_or1 (pt_cmp (pc_din (hu_of hr) (pe_ix ix_list (pv 5) pe_int (fun _ _ => rfl)) (pv 2))))))) (pss_one ps_never) pss_nil)
  (pss_one (ps_dput (hu_of hr) (pv 2) (pe_ix ix_list (pv 5) pe_int (fun _ _ => rfl)) (pe_callTy tup_ofN (by rfl) T.z_tuple (by decide +kernel) (pa_cons (pe_slice (sl_listS (K := K)) (pv 5) (po_some pe_int) po_none) pa_nil)) rfl)))))
  (pss_one (ps_ret (pe_frz (pv 2)))))))), ?_⟩
    refine ⟨_, rfl, x, rfl, G.len, fun a1 Ha ha sa ea => ?_⟩
    generalize hL : linesOf x = L at ea k
    have hne : L ≠ [] := by rw [← hL]; exact G.ne
    have hfew : L.length ≤ 4 := by rw [← hL]; exact G.few
    have hml : (L.map V.str).length = L.length := List.length_map ..
    refine ⟨_, rfl, _, .inl ⟨_, SqL.of ea, rfl⟩, ?_⟩
    have hemp : (L.map V.str).isEmpty = false := by
      cases L with
      | nil => exact absurd rfl hne
      | cons _ _ => rfl
    rw [hemp]
    refine iteF fun d hd => ?_
    have nd : d ≠ a1 := fun z => by rw [z, ea] at hd; cases hd
    have hdH : H d = none := sa.free hd
    refine ⟨_, rfl, a1, _, rfl, SqL.of (by rw [upd_ne (Ne.symm nd)]; exact ea), fun i m σ' H' => ∃ (kvs : List (Key × V)) (s3 s4 s5 : Option V), m = L.length - i ∧ i ≤ L.length ∧ σ' = [some (.str x), some (.ref a1), some (.ref d), s3, s4, s5] ∧ Same Ha H' ∧ H' d = some (.dK kvs) ∧ ColsAt H' kvs ((L.take i).map tabOf),
      ⟨L.length, [], none, none, none, rfl, Nat.zero_le _, rfl, Same.new (Same.refl Ha) hd, upd_same, .nil⟩, ?_⟩
    rintro i m σ' H' ⟨kvs, s3, s4, s5, rfl, hi, rfl, hs, hd', hc⟩
    have ea' := hs _ _ ea
    by_cases hlt : i < L.length
    · refine .inr ⟨⟨_, V.str L[i], SqL.of ea', by rw [List.getElem?_map, List.getElem?_eq_getElem hlt]; rfl⟩, fun σ2 H2 => ∃ (kvs : List (Key × V)) (s3 s4 s5 : Option V), σ2 = [some (.str x), some (.ref a1), some (.ref d), s3, s4, s5] ∧ Same Ha H2 ∧ H2 d = some (.dK kvs) ∧ ColsAt H2 kvs ((L.take (i + 1)).map tabOf),
        fun σ2 H2 ⟨kvs, s3, s4, s5, e1, e2, e3, e4⟩ => ⟨L.length - (i + 1), by omega, kvs, s3, s4, s5, rfl, hlt, e1, e2, e3, e4⟩, ?_⟩
      rintro v H2 ⟨T0, x0, rfl, hT0, rfl, hx0⟩
      have hx0 := hx0 _ (SqL.of ea')
      rw [List.getElem?_map, List.getElem?_eq_getElem hlt] at hx0
      cases hx0
      have hmem : L[i] ∈ linesOf x := by rw [hL]; exact List.getElem_mem hlt
      obtain ⟨z1, z2, z3⟩ := G.size _ hmem
      have zok := G.ok _ hmem
      refine ⟨T0, _, rfl, SqT.of upd_same, rfl, _, _, rfl, _, _, rfl, rfl, ?_⟩
      have sT : Same H' (upd H' T0 (.tup [.int ((1 + i : Nat) : Int), V.str L[i]])) := Same.new (Same.refl H') hT0
      refine ⟨_, rfl, L[i], rfl, z1, fun p H3 hp s03 e3 => ?_⟩
      generalize hW : Txt.split L[i] " " = ws at e3 z2 z3 zok
      have s13 : Same H' H3 := sT.trans s03
      have hlen3 : 3 ≤ ws.length := by
        unfold isTableLine at zok
        simp only [Bool.and_eq_true, Bool.not_eq_true', Bool.or_eq_false_iff, decide_eq_false_iff_not] at zok
        omega
      have h1 : (ws.map V.str)[1]? = some (V.str (ws.getD 1 Str.empty)) := by
        rw [List.getElem?_map, List.getElem?_eq_getElem (by omega), List.getD_eq_getElem?_getD, List.getElem?_eq_getElem (by omega)]; rfl
      have ht : tabOf L[i] = (ws.getD 1 Str.empty, ws.drop 2) := by unfold tabOf; rw [hW]
      have hnew : ws.getD 1 Str.empty ∉ ((L.take i).map tabOf).map (·.1) := by
        have nn := G.nd
        rw [hL] at nn
        intro hm
        rw [List.map_map] at hm
        obtain ⟨y, hy, ey⟩ := List.mem_map.mp hm
        obtain ⟨j, hj, ej⟩ := List.getElem_of_mem hy
        have hj2 : j < i := by
          have q := hj
          rw [List.length_take] at q
          omega
        rw [List.getElem_take] at ej
        have e9 : (L.map fun l => (tabOf l).1)[j]'(by rw [List.length_map]; omega) = (L.map fun l => (tabOf l).1)[i]'(by rw [List.length_map]; exact hlt) := by
          rw [List.getElem_map, List.getElem_map, ht, ej]
          exact ey
        have q := (List.getElem_inj nn).mp e9
        omega
      obtain ⟨hval, hany⟩ := hc.no hnew
      have hnum : decide ((4 : Int) < ((1 + i : Nat) : Int)) = false := decide_eq_false (by omega)
      refine ⟨fun σ2 H4 => σ2 = [some (.str x), some (.ref a1), some (.ref d), some (.int ((1 + i : Nat) : Int)), some (.str L[i]), some (.ref p)] ∧ Same H3 H4, ⟨_, rfl, _, _, rfl, rfl, _, rfl, ?_⟩, ?_⟩
      · rw [hnum]
        refine iteF ⟨_, rfl, p, ws, rfl, SqL.of e3, fun z => by rw [z] at hlen3; simp at hlen3, z2, z3, s13 _ _ (hs _ _ (sa _ _ hP1)), s13 _ _ (hs _ _ (sa _ _ hP2)), fun H4 s34 => ⟨_, rfl, ?_⟩⟩
        rw [zok]
        refine iteF ⟨_, rfl, p, _, 1, _, rfl, rfl, SqL.of (s34 _ _ e3), atI_nat (k := 1) h1, _, rfl, d, _, rfl, DGet.k (k := .inr (ws.getD 1 Str.empty)) (s34 _ _ (s13 _ _ hd')), _, rfl, ?_⟩
        rw [hval]
        exact iteF ⟨rfl, s34⟩
      · rintro σ2 H4 ⟨rfl, s34⟩
        have e4 := s34 _ _ e3
        have d4 := s34 _ _ (s13 _ _ hd')
        refine ⟨_, rfl, _, rfl, p, _, rfl, SqL.of e4, fun q H5 hq s45 e5 => ⟨q, _, rfl, SqL.of e5, fun q2 H6 hq2 sq eq2 => ?_⟩⟩
        have ec : cutV (List.map V.str ws) (some 2) none = (ws.drop 2).map V.str := by rw [cut_from _ (z := 2) (k := 2) rfl, List.map_drop]
        have e6 := sq _ _ (s45 _ _ e4)
        have d6 := sq _ _ (s45 _ _ d4)
        have s06 : Same H' H6 := ((s13.trans s34).trans s45).trans sq
        rw [ec] at eq2
        have hkl : kvs.length = i := by
          have q9 := Paired.length hc
          rw [List.length_map, List.length_take] at q9
          omega
        refine ⟨_, rfl, _, rfl, p, _, 1, _, rfl, rfl, SqL.of e6, atI_nat (k := 1) h1, d, _, rfl, DPut.k (k := .inr (ws.getD 1 Str.empty)) d6 (small1000 (by omega)), ?_⟩
        have hput : putK kvs (.inr (ws.getD 1 Str.empty)) (V.ref q2) = kvs ++ [(.inr (ws.getD 1 Str.empty), V.ref q2)] := by
          unfold putK
          rw [hany]; rfl
        rw [hput]
        have ndq : ∀ b o xs, H6 b = some (.frz o (.tup xs)) → b ≠ d := fun b o xs e z => by rw [z, d6] at e; cases e
        have hk6 : ∀ b o xs, H6 b = some (.frz o (.tup xs)) → (upd H6 d (.dK (kvs ++ [(.inr (ws.getD 1 Str.empty), V.ref q2)]))) b = some (.frz o (.tup xs)) := fun b o xs e => by rw [upd_ne (ndq b o xs e)]; exact e
        refine ⟨_, _, _, _, rfl, fun b o e => ?_, upd_same, ?_⟩
        · have nb : b ≠ d := fun z => by rw [z, hd] at e; cases e
          rw [upd_ne nb]
          exact s06 _ _ (hs _ _ e)
        · rw [List.take_add_one, List.getElem?_eq_getElem hlt]
          show ColsAt _ _ ((L.take i ++ [L[i]]).map tabOf)
          rw [List.map_append]
          refine paired_snoc (hc.keep fun b o xs e => hk6 b o xs (s06 _ _ e)) ?_
          rw [ht]
          exact ⟨rfl, q2, rfl, eq2.keep hk6⟩
    · have hin : i = L.length := by omega
      subst hin
      refine .inl ⟨⟨_, SqL.of ea', by rw [hml]; exact Nat.le_refl _⟩, _, rfl, d, _, rfl, hd', trivial, fun o => ?_⟩
      refine k d o kvs _ hdH (fun b u e => ?_) upd_same ?_
      · have nb : b ≠ d := fun z => by rw [z, hdH] at e; cases e
        rw [upd_ne nb]
        exact hs _ _ (sa _ _ e)
      · rw [List.take_length] at hc
        exact hc.keep fun b o xs e => by
          have nb : b ≠ d := fun z => by rw [z, hd'] at e; cases e
          rw [upd_ne nb]; exact e
end
end L2.Pf
set_option maxHeartbeats 2000000
namespace L2.Pf
open PySem PySem.Spec PyProof.Rows L2.Ev L2.Tpd L2.Seti L2.Gq L2.Enf L2.Sett L2.Itr L2.Dls L2.Own
section
variable {P : Program} {w : World} {K : PySem.W.Frag} {mg : Str → Option Value} {base : Heap}
/-- a schema of these tables stands at a -/
def SchemaAt (C : Addr) (H : Hp) (a : Addr) (tabs : List (Str × List Str)) : Prop := ∃ dx d o kvs t, H a = some (.ins C dx [("_columns", .ref d), ("tables", .ref t)]) ∧ H d = some (.frz o (.dK kvs)) ∧ ColsAt H kvs tabs ∧ H t = some (.tup (tabs.map fun p => V.str p.1))
theorem SchemaAt.same {C : Addr} {H H' : Hp} {a : Addr} {tabs : List (Str × List Str)} (h : SchemaAt C H a tabs) (s : Same H H') : SchemaAt C H' a tabs := by
  obtain ⟨dx, d, o, kvs, t, h1, h2, h3, h4⟩ := h
  exact ⟨dx, d, o, kvs, t, s _ _ h1, s _ _ h2, h3.keep fun q o xs e => s _ _ e, s _ _ h4⟩
def sp_Schema_init (C P1 P2 : Addr) : Sp := fun vs H Q _ => ∃ (a dx : Addr) (x : Str), vs = [.ref a, .str x] ∧ H a = some (.ins C dx []) ∧ GoodText x ∧ H P1 = some (TabX P1) ∧ H P2 = some (TabX P2) ∧
  ∀ H', But a H H' → SchemaAt C H' a ((linesOf x).map tabOf) → Q .non H'
theorem ok_Schema_init (T : TX K mg) (B : TB T base) : FnOk P w K mg base CX0 6 T.a_Schema_init T.fd_Schema_init p_Schema_init (sp_Schema_init T.C_Schema T.P_is_name T.P_is_table_line) := by
  refine T.F_Schema_init.ok sc_Schema_init (fun vs H Q E h => ?_) (fun cdv A outer s H vs Q E hr h => ?_)
  · obtain ⟨a, dx, x, rfl, _⟩ := h
    rfl
  · obtain ⟨a, dx, x, rfl, ha, G, hP1, hP2, k⟩ := h
    refine ⟨_, (pss_cons (ps_fld (pv 0) (pe_call (ok_declared_tables T B) (hr.mono (by decide)) rfl T.g_declared_tables T.F_declared_tables.kp T.b_declared_tables .nil pass0 (pa_cons (pv 1) pa_nil)) rfl)
  (pss_one (ps_fld (pv 0) (pe_callTy (tup_ofD rfl) (by rfl) T.z_tuple (by decide +kernel) (pa_cons (pe_fld (pv 0) rfl) pa_nil)) rfl))), ?_⟩
    refine ⟨_, rfl, x, rfl, G, hP1, hP2, fun d o kvs H1 hd s1 e1 c1 => ?_⟩
    have a1 := s1 _ _ ha
    have nad : a ≠ d := fun z => by rw [← z, ha] at hd; cases hd
    refine ⟨_, rfl, a, T.C_Schema, dx, [], rfl, a1, T.cl_Schema, T.n_Schema__columns, (by decide), ?_⟩
    have e2 : (upd H1 a (.ins T.C_Schema dx (putF "_columns" (.ref d) []))) d = some (.frz o (.dK kvs)) := by rw [upd_ne (Ne.symm nad)]; exact e1
    refine ⟨_, rfl, a, T.C_Schema, dx, [("_columns", .ref d)], _, rfl, upd_same, T.cl_Schema, T.n_Schema__columns, rfl, d, kvs, rfl, .inr ⟨o, e2⟩, fun t H3 ht s3 e3 => ?_⟩
    have a3 := s3 _ _ (upd_same (H := H1) (a := a) (o := .ins T.C_Schema dx (putF "_columns" (.ref d) [])))
    have nat : t ≠ a := fun z => by rw [z, upd_same] at ht; cases ht
    refine ⟨_, rfl, a, T.C_Schema, dx, _, rfl, a3, T.cl_Schema, T.n_Schema_tables, (show 1 < 1000 by decide), ?_⟩
    refine k _ (fun b u hb e => ?_) ⟨dx, d, o, kvs, t, upd_same, ?_, ?_, ?_⟩
    · rw [upd_ne hb]
      exact s3 _ _ (by rw [upd_ne hb]; exact s1 _ _ e)
    · rw [upd_ne (Ne.symm nad)]
      exact s3 _ _ e2
    · refine c1.keep fun q o xs e => ?_
      have nq : q ≠ a := fun z => by rw [z, a1] at e; cases e
      rw [upd_ne nq]
      exact s3 _ _ (by rw [upd_ne nq]; exact e)
    · rw [upd_ne nat, e3]
      have ke : ∀ {l : List (Key × V)} {r : List (Str × List Str)}, ColsAt H1 l r → (l.map fun p => kV p.1) = r.map fun p => V.str p.1 := by
        intro l r h
        induction h with
        | nil => rfl
        | cons g t ih =>
          rw [List.map_cons, List.map_cons, ih, g.1]; rfl
      rw [ke c1]
def sp_Schema_columns (C : Addr) : Sp := fun vs H Q _ => ∃ (a : Addr) (y : Str) (tabs : List (Str × List Str)) (cs : List Str), vs = [.ref a, .str y] ∧ SchemaAt C H a tabs ∧ (tabs.find? fun t => decide (t.1 = y)) = some (y, cs) ∧
  ∀ q, TupN H q (cs.map V.str) → Q (.ref q) H
theorem ok_Schema_columns (T : TX K mg) (B : TB T base) : FnOk P w K mg base CX0 3 T.a_Schema_columns T.fd_Schema_columns p_Schema_columns (sp_Schema_columns T.C_Schema) := by
  refine T.F_Schema_columns.ok sc_Schema_columns (fun vs H Q E h => ?_) (fun cdv A outer s H vs Q E hr h => ?_)
  · obtain ⟨a, y, tabs, cs, rfl, _⟩ := h
    rfl
  · obtain ⟨a, y, tabs, cs, rfl, ⟨dx, d, o, kvs, t, h1, h2, h3, h4⟩, hf, k⟩ := h
    refine ⟨_, (pss_cons (ps_if (pt_cmp (pc_dnotin (hu_of hr) (pv 1) (pe_fld (pv 0) rfl))) (pss_one ps_never) pss_nil)
  (pss_one (ps_ret (pe_dget (hu_of hr) (pe_fld (pv 0) rfl) (pv 1) (fun _ _ => rfl))))), ?_⟩
    have key : ∀ {kvs : List (Key × V)} {tabs : List (Str × List Str)}, ColsAt H kvs tabs → (tabs.find? fun t => decide (t.1 = y)) = some (y, cs) → ∃ q, valV kvs (.inr y) = some (.ref q) ∧ TupN H q (cs.map V.str) := by
      intro kvs tabs hc
      induction hc with
      | nil => intro z; cases z
      | cons g t ih =>
        intro z
        obtain ⟨g1, q, g2, g3⟩ := g
        rename_i p b l r
        obtain ⟨pk, pv⟩ := p
        have g1 : pk = .inr b.1 := g1
        have g2 : pv = .ref q := g2
        subst g1 g2
        by_cases e : b.1 = y
        · rw [List.find?_cons, decide_eq_true e] at z
          cases z
          exact ⟨q, valV_pos rfl, g3⟩
        · rw [List.find?_cons, decide_eq_false e] at z
          obtain ⟨q2, i1, i2⟩ := ih z
          refine ⟨q2, ?_, i2⟩
          unfold valV at i1 ⊢
          rw [List.find?_cons, decide_eq_false (fun z2 => e (Sum.inr.inj z2))]
          exact i1
    obtain ⟨q, hv, hq⟩ := key h3 hf
    have dg : ∀ r, r = valV kvs (.inr y) → DGet H d (.str y) r := fun r e => .inl ⟨kvs, .inr y, .inr ⟨o, h2⟩, rfl, e⟩
    refine ⟨_, rfl, _, rfl, a, T.C_Schema, dx, _, _, rfl, h1, T.cl_Schema, T.n_Schema__columns, rfl, d, _, rfl, dg _ hv.symm, _, rfl, ?_⟩
    exact iteF ⟨_, rfl, a, T.C_Schema, dx, _, _, rfl, h1, T.cl_Schema, T.n_Schema__columns, rfl, _, rfl, d, _, rfl, dg _ hv.symm, k q hq⟩
end
end L2.Pf
set_option maxHeartbeats 2000000
namespace L2.Pf
open PySem PySem.Spec PyProof.Rows L2.Ev L2.Tpd L2.Seti L2.Gq L2.Enf L2.Sett L2.Itr L2.Dls L2.Own
section
variable {P : Program} {w : World} {K : PySem.W.Frag} {mg : Str → Option Value} {base : Heap}
abbrev Tabs := List (Str × List Str)
abbrev Place := Str × Option Str
def colV : Option Str → V
  | none => .non
  | some c => .str c
/-- a place, or none -/
def PlV (H : Hp) : Option Place → V → Prop
  | none, v => v = .non
  | some p, v => ∃ q, v = .ref q ∧ H q = some (.tup [.str p.1, colV p.2])
theorem PlV.same {H H' : Hp} {o : Option Place} {v : V} (h : PlV H o v) (s : Same H H') : PlV H' o v := by
  cases o with
  | none => exact h
  | some p => exact let ⟨q, e, e2⟩ := h; ⟨q, e, s _ _ e2⟩
def readTable (tabs : Tabs) (x : Str) : Option Place := if inV (.str x) (tabs.map fun p => V.str p.1) = true then some (x, none) else none
def sp_read_table (C : Addr) : Sp := fun vs H Q _ => ∃ (a : Addr) (x : Str) (tabs : Tabs), vs = [.ref a, .str x] ∧ SchemaAt C H a tabs ∧ ∀ v H', Same H H' → PlV H' (readTable tabs x) v → Q v H'
theorem all_strs {α : Type} (f : α → Str) : ∀ l : List α, (l.map fun p => V.str (f p)).all flatV = true
  | [] => rfl
  | a :: l => by rw [List.map_cons, List.all_cons, all_strs f l]; rfl
theorem ok_read_table (T : TX K mg) (B : TB T base) : FnOk P w K mg base CX0 1 T.a_read_table T.fd_read_table p_read_table (sp_read_table T.C_Schema) := by
  refine T.F_read_table.ok sc_read_table (fun vs H Q E h => ?_) (fun cdv A outer s H vs Q E hr h => ?_)
  · obtain ⟨a, x, tabs, rfl, _⟩ := h
    rfl
  · obtain ⟨a, x, tabs, rfl, ⟨dx, d, o, kvs, t, h1, h2, h3, h4⟩, k⟩ := h
    refine ⟨_, (pss_cons (ps_if (pt_cmpR op_in_seq (pv 1) (pe_fld (pv 0) rfl) (by rfl)) (pss_one (ps_ret (pe_tupS (pa_cons (pv 1) (pa_cons pe_non pa_nil))))) pss_nil)
  (pss_one (ps_ret pe_non))), ?_⟩
    refine ⟨_, rfl, _, rfl, a, T.C_Schema, dx, _, _, rfl, h1, T.cl_Schema, T.n_Schema_tables, rfl, t, _, rfl, .inr (SqT.of h4), rfl, all_strs _ _, _, rfl, ?_⟩
    unfold readTable at k
    cases hb : inV (.str x) (tabs.map fun p => V.str p.1) with
    | true =>
      rw [if_pos hb] at k
      exact iteT ⟨_, rfl, (by show 2 ≤ sizeLine; decide), fun p H' hp s1 e1 => k _ H' s1 ⟨p, rfl, e1⟩⟩
    | false =>
      rw [if_neg (by rw [hb]; exact Bool.false_ne_true)] at k
      exact iteF (k .non H (Same.refl H) rfl)
/-- the columns of a table -/
def colsOf (tabs : Tabs) (y : Str) : Option (List Str) := (tabs.find? fun t => decide (t.1 = y)).map (·.2)
theorem eqV_str (a b : Str) : eqV (.str a) (.str b) = decide (a = b) := by
  by_cases e : a = b
  · subst e; simp [eqV]
  · rw [decide_eq_false e]
    show (a == b) = false
    exact beq_eq_false_iff_ne.mpr e
theorem cols_in : ∀ (tabs : Tabs) (y : Str), inV (.str y) (tabs.map fun p => V.str p.1) = (colsOf tabs y).isSome
  | [], _ => rfl
  | t :: r, y => by
    unfold colsOf inV
    rw [List.map_cons, List.any_cons, List.find?_cons, eqV_str]
    by_cases e : t.1 = y
    · rw [decide_eq_true e]; rfl
    · rw [decide_eq_false e]
      exact cols_in r y
theorem cols_find : ∀ {tabs : Tabs} {y : Str} {cs : List Str}, colsOf tabs y = some cs → (tabs.find? fun t => decide (t.1 = y)) = some (y, cs)
  | [], _, _, h => by cases h
  | t :: r, y, cs, h => by
    unfold colsOf at h
    rw [List.find?_cons] at h ⊢
    by_cases e : t.1 = y
    · rw [decide_eq_true e] at h ⊢
      have h2 : t.2 = cs := Option.some.inj h
      show some t = _
      rw [← e, ← h2]
    · rw [decide_eq_false e] at h ⊢
      exact cols_find (tabs := r) h
def readColumn (tabs : Tabs) (x : Str) : Option Place := match colsOf tabs (Txt.partition x ".").1 with
  | some cs => if inV (.str (Txt.partition x ".").2.2) (cs.map V.str) = true then some ((Txt.partition x ".").1, some (Txt.partition x ".").2.2) else none
  | none => none
def sp_read_column (C : Addr) : Sp := fun vs H Q _ => ∃ (a : Addr) (x : Str) (tabs : Tabs), vs = [.ref a, .str x] ∧ x.length ≤ 10000 ∧ SchemaAt C H a tabs ∧ ∀ v H', Same H H' → PlV H' (readColumn tabs x) v → Q v H'
theorem ok_read_column (T : TX K mg) (B : TB T base) : FnOk P w K mg base CX0 4 T.a_read_column T.fd_read_column p_read_column (sp_read_column T.C_Schema) := by
  refine T.F_read_column.ok sc_read_column (fun vs H Q E h => ?_) (fun cdv A outer s H vs Q E hr h => ?_)
  · obtain ⟨a, x, tabs, rfl, _⟩ := h
    rfl
  · obtain ⟨a, x, tabs, rfl, hx, hS, k⟩ := h
    have hS0 := hS
    obtain ⟨dx, d, o, kvs, t, h1, h2, h3, h4⟩ := hS
    refine ⟨_, (pss_cons (ps_asg (pe_partition (pv 1) pe_str) (pg_tup rfl (pgs_cons (pg_name (i := 2) sc_read_column.nd rfl (Or.inl rfl)) (pgs_cons (pg_name (i := 3) sc_read_column.nd rfl (Or.inl rfl)) (pgs_cons (pg_name (i := 4) sc_read_column.nd rfl (Or.inl rfl)) pgs_nil)))))
  (pss_join (ps_if (PW.pt (pw_and (pt_cmpR op_in_seq (pv 2) (pe_fld (pv 0) rfl) (by rfl)) (pw_and1 (pt_cmpR op_in_seq (pv 4) (pe_meth (pv 0) T.cl_Schema T.m_Schema_columns (ok_Schema_columns T B) (hr.mono (by decide)) T.b_Schema_columns .nil pass0 (pa_cons (pv 2) pa_nil)) (by rfl))))) (pss_one (ps_ret (pe_tupS (pa_cons (pv 2) (pa_cons (pv 4) pa_nil))))) pss_nil)
  (pss_one (ps_ret pe_non)))), ?_⟩
    unfold readColumn at k
    refine ⟨_, rfl, ⟨_, rfl⟩, x, _, rfl, rfl, by decide, Nat.le_trans hx (by decide), fun p hp => ?_⟩
    generalize Txt.partition x "." = pt at k ⊢
    obtain ⟨t1, mid, c1⟩ := pt
    have sp : Same H (upd H p (.tup [V.str t1, V.str mid, V.str c1])) := Same.new (Same.refl H) hp
    refine ⟨p, _, rfl, SqT.of upd_same, rfl, _, _, rfl, _, _, rfl, _, _, rfl, rfl, ?_⟩
    show tJoin _ _ _ _ (upd H p (.tup [V.str t1, V.str mid, V.str c1]))
    generalize upd H p (.tup [V.str t1, V.str mid, V.str c1]) = H1 at sp
    have a1 := sp _ _ h1
    have t1' := sp _ _ h4
    have S1 := hS0.same sp
    have no : ∀ {σ' : St} {H' : Hp}, (match colsOf tabs t1 with
      | some cs => if inV (.str c1) (cs.map V.str) = true then some (t1, some c1) else none
      | none => (none : Option Place)) = none → Same H H' → Q .non H' := fun e s => k .non _ s (by rw [e]; rfl)
    refine ⟨fun σ' H' => Same H H' ∧ (match colsOf tabs t1 with
      | some cs => if inV (.str c1) (cs.map V.str) = true then some (t1, some c1) else none
      | none => (none : Option Place)) = none, ⟨_, rfl, _, rfl, a, T.C_Schema, dx, _, _, rfl, a1, T.cl_Schema, T.n_Schema_tables, rfl, t, _, rfl, .inr (SqT.of t1'), rfl, all_strs _ _, _, rfl, ?_⟩, fun σ' H' ⟨s1, e⟩ => no (σ' := σ') e s1⟩
    rw [if_neg Bool.false_ne_true, cols_in tabs t1]
    cases hc : colsOf tabs t1 with
    | none => exact iteF (iteF ⟨sp, rfl⟩)
    | some cs =>
      refine iteT ⟨_, rfl, _, rfl, a, dx, _, rfl, a1, rfl, _, rfl, a, t1, tabs, cs, rfl, S1, cols_find hc, fun q hq => ⟨q, _, rfl, .inr hq.sq, rfl, ?_, _, rfl, ?_⟩⟩
      · have z := all_strs (fun y : Str => y) cs
        exact z
      · rw [if_neg Bool.false_ne_true]
        cases hb : inV (.str c1) (cs.map V.str) with
        | true =>
          refine iteT ⟨_, rfl, _, rfl, (by show 2 ≤ sizeLine; decide), fun r H' hr s2 e2 => k _ H' (sp.trans s2) ?_⟩
          rw [hc]
          show PlV H' (if inV (.str c1) (cs.map V.str) = true then some (t1, some c1) else none) _
          rw [if_pos hb]
          exact ⟨r, rfl, e2⟩
        | false =>
          refine iteF ⟨sp, ?_⟩
          show (if inV (.str c1) (cs.map V.str) = true then some (t1, some c1) else none) = none
          rw [if_neg (by rw [hb]; exact Bool.false_ne_true)]
end
end L2.Pf
set_option maxHeartbeats 2000000
namespace L2.Pf
open PySem PySem.Spec PyProof.Rows L2.Ev L2.Tpd L2.Seti L2.Gq L2.Enf L2.Sett L2.Itr L2.Dls L2.Own
section
variable {P : Program} {w : World} {K : PySem.W.Frag} {mg : Str → Option Value} {base : Heap}
abbrev Fact := Str × Place × Option Place
def wordAt (ws : List Str) (i : Nat) : Str := ws.getD i Str.empty
def readWords (tabs : Tabs) (ws : List Str) : Option Fact :=
  if ws.length = 2 ∧ inV (.str (wordAt ws 0)) k_OF_TABLES = true then (readTable tabs (wordAt ws 1)).map fun p => (wordAt ws 0, p, none)
  else if ws.length = 2 ∧ inV (.str (wordAt ws 0)) k_OF_COLUMNS = true then (readColumn tabs (wordAt ws 1)).map fun p => (wordAt ws 0, p, none)
  else if ws.length = 4 ∧ wordAt ws 0 = ("found" : Str) ∧ wordAt ws 2 = ("in" : Str) then (readColumn tabs (wordAt ws 3)).bind fun g => (readColumn tabs (wordAt ws 1)).map fun p => (wordAt ws 0, p, some g)
  else none
def FactV (H : Hp) : Option Fact → V → Prop
  | none, v => v = .non
  | some f, v => ∃ q pv gv, v = .ref q ∧ H q = some (.tup [.str f.1, pv, gv]) ∧ PlV H (some f.2.1) pv ∧ PlV H f.2.2 gv
theorem FactV.same {H H' : Hp} {o : Option Fact} {v : V} (h : FactV H o v) (s : Same H H') : FactV H' o v := by
  cases o with
  | none => exact h
  | some f => exact let ⟨q, pv, gv, e, e2, e3, e4⟩ := h; ⟨q, pv, gv, e, s _ _ e2, e3.same s, e4.same s⟩
def sp_read_fact (C : Addr) : Sp := fun vs H Q _ => ∃ (a : Addr) (x : Str) (tabs : Tabs), vs = [.ref a, .str x] ∧ x.length ≤ 10000 ∧ (∀ y ∈ Txt.split x " ", y.length ≤ 10000) ∧ SchemaAt C H a tabs ∧ ∀ v H', Same H H' → FactV H' (readWords tabs (Txt.split x " ")) v → Q v H'
theorem word_at {ws : List Str} {i : Nat} (h : i < ws.length) : (ws.map V.str)[i]? = some (V.str (wordAt ws i)) := by
  unfold wordAt
  rw [List.getElem?_map, List.getElem?_eq_getElem h, List.getD_eq_getElem?_getD, List.getElem?_eq_getElem h]; rfl
theorem word_mem {ws : List Str} {i : Nat} (h : i < ws.length) : wordAt ws i ∈ ws := by
  unfold wordAt
  rw [List.getD_eq_getElem?_getD, List.getElem?_eq_getElem h]; exact List.getElem_mem h
theorem ok_read_fact (T : TX K mg) (B : TB T base) : FnOk P w K mg base CX0 5 T.a_read_fact T.fd_read_fact p_read_fact (sp_read_fact T.C_Schema) := by
  refine T.F_read_fact.ok sc_read_fact (fun vs H Q E h => ?_) (fun cdv A outer s H vs Q E hr h => ?_)
  · obtain ⟨a, x, tabs, rfl, _⟩ := h
    rfl
  · obtain ⟨a, x, tabs, rfl, hx, hws, hS, k⟩ := h
    refine ⟨_, (pss_cons (ps_set (i := 2) sc_read_fact.nd rfl (Or.inl rfl) (pe_call (ok_words_of T B) (hr.mono (by decide)) rfl T.g_words_of T.F_words_of.kp T.b_words_of .nil pass0 (pa_cons (pv 1) pa_nil)))
  (pss_cons (ps_set (i := 3) sc_read_fact.nd rfl (Or.inl rfl) pe_non)
  (pss_cons (ps_set (i := 4) sc_read_fact.nd rfl (Or.inl rfl) pe_non)
  (pss_join (ps_if (PW.pt (pw_and (pt_cmpR op_eq (pe_callB call_len_seq (by rfl) T.z_len (by decide +kernel) (pa_cons (pv 2) pa_nil)) pe_int (nomark _)) (pw_and1 (pt_cmpR op_in_seq (pe_ix ix_list (pv 2) pe_int (fun _ _ => rfl)) (pe_glob (v := .ref T.a_OF_TABLES) rfl T.c_OF_TABLES rfl) (by rfl))))) (pss_one (ps_set (i := 3) sc_read_fact.nd rfl (Or.inl rfl) (pe_call (ok_read_table T B) (hr.mono (by decide)) rfl T.g_read_table T.F_read_table.kp T.b_read_table .nil pass0 (pa_cons (pv 0) (pa_cons (pe_ix ix_list (pv 2) pe_int (fun _ _ => rfl)) pa_nil))))) (pss_one (ps_if (PW.pt (pw_and (pt_cmpR op_eq (pe_callB call_len_seq (by rfl) T.z_len (by decide +kernel) (pa_cons (pv 2) pa_nil)) pe_int (nomark _)) (pw_and1 (pt_cmpR op_in_seq (pe_ix ix_list (pv 2) pe_int (fun _ _ => rfl)) (pe_glob (v := .ref T.a_OF_COLUMNS) rfl T.c_OF_COLUMNS rfl) (by rfl))))) (pss_one (ps_set (i := 3) sc_read_fact.nd rfl (Or.inl rfl) (pe_call (ok_read_column T B) (hr.mono (by decide)) rfl T.g_read_column T.F_read_column.kp T.b_read_column .nil pass0 (pa_cons (pv 0) (pa_cons (pe_ix ix_list (pv 2) pe_int (fun _ _ => rfl)) pa_nil))))) (pss_one (ps_if (PW.pt (pw_and (pt_cmpR op_eq (pe_callB call_len_seq (by rfl) T.z_len (by decide +kernel) (pa_cons (pv 2) pa_nil)) pe_int (nomark _)) (pw_and (pt_cmpR op_eq (pe_ix ix_list (pv 2) pe_int (fun _ _ => rfl)) pe_str (nomark _)) (pw_and1 (pt_cmpR op_eq (pe_ix ix_list (pv 2) pe_int (fun _ _ => rfl)) pe_str (nomark _)))))) (pss_cons (ps_set (i := 3) sc_read_fact.nd rfl (Or.inl rfl) (pe_call (ok_read_column T B) (hr.mono (by decide)) rfl T.g_read_column T.F_read_column.kp T.b_read_column .nil pass0 (pa_cons (pv 0) (pa_cons (pe_ix ix_list (pv 2) pe_int (fun _ _ => rfl)) pa_nil))))
  (pss_cons (ps_set (i := 4) sc_read_fact.nd rfl (Or.inl rfl) (pe_call (ok_read_column T B) (hr.mono (by decide)) rfl T.g_read_column T.F_read_column.kp T.b_read_column .nil pass0 (pa_cons (pv 0) (pa_cons (pe_ix ix_list (pv 2) pe_int (fun _ _ => rfl)) pa_nil))))
  (pss_one (ps_if (pt_cmpR op_isN (pv 4) pe_non (nomark _)) (pss_one (ps_ret pe_non)) pss_nil)))) pss_nil)))))
  (pss_cons (ps_if (pt_cmpR op_isN (pv 3) pe_non (nomark _)) (pss_one (ps_ret pe_non)) pss_nil)
  (pss_one (ps_ret (pe_tupS (pa_cons (pe_ix ix_list (pv 2) pe_int (fun _ _ => rfl)) (pa_cons (pv 3) (pa_cons (pv 4) pa_nil))))))))))), ?_⟩
    refine ⟨_, rfl, x, rfl, hx, fun p H1 hp s1 e1 => ?_⟩
    generalize Txt.split x " " = ws at hws k e1
    have S1 := hS.same s1
    have T1 : ∀ H', SqT K H' T.a_OF_TABLES k_OF_TABLES := fun H' => const_tup T.v_OF_TABLES (by decide)
    have T2 : ∀ H', SqT K H' T.a_OF_COLUMNS k_OF_COLUMNS := fun H' => const_tup T.v_OF_COLUMNS (by decide)
    have hml : (ws.map V.str).length = ws.length := List.length_map ..
    have lenEq : ∀ n : Nat, decide (V.int (((ws.map V.str).length : Nat) : Int) = V.int (n : Int)) = decide (ws.length = n) := fun n => by
      rw [hml]
      by_cases h : ws.length = n
      · rw [decide_eq_true h, decide_eq_true (by rw [h])]
      · rw [decide_eq_false h, decide_eq_false (show ¬ V.int ((ws.length : Nat) : Int) = V.int ((n : Nat) : Int) from fun z => h (by have z2 := V.int.inj z; omega))]
    -- what stands behind the three ways
    refine ⟨fun σ' H' => ∃ (op og : Option Place) (pv gv : V), σ' = [some (.ref a), some (.str x), some (.ref p), some pv, some gv] ∧ Same H1 H' ∧ PlV H' op pv ∧ PlV H' og gv ∧ (op ≠ none → 1 ≤ ws.length) ∧ readWords tabs ws = op.map fun q => (wordAt ws 0, q, og), ?_, ?_⟩
    · have none1 : (readWords tabs ws = none) → ∃ (op og : Option Place) (pv gv : V), [some (V.ref a), some (V.str x), some (V.ref p), some V.non, some V.non] = [some (.ref a), some (.str x), some (.ref p), some pv, some gv] ∧ Same H1 H1 ∧ PlV H1 op pv ∧ PlV H1 og gv ∧ (op ≠ none → 1 ≤ ws.length) ∧ readWords tabs ws = op.map fun q => (wordAt ws 0, q, og) :=
        fun e => ⟨none, none, .non, .non, rfl, Same.refl _, rfl, rfl, fun z => absurd rfl z, e⟩
      have le2 := lenEq 2
      have le4 := lenEq 4
      refine ⟨_, rfl, p, _, rfl, .inl (SqL.of e1), rfl, _, rfl, ?_⟩
      rw [show decide (V.int (((ws.map V.str).length : Nat) : Int) = V.int 2) = decide (ws.length = 2) from le2]
      by_cases h2 : ws.length = 2
      · rw [decide_eq_true h2]
        have hm1 : wordAt ws 1 ∈ ws := word_mem (by omega)
        refine iteT ⟨_, rfl, p, _, 0, _, rfl, rfl, SqL.of e1, atI_nat (k := 0) (word_at (by omega)), T.a_OF_TABLES, k_OF_TABLES, rfl, .inr (T1 H1), rfl, by decide, _, rfl, ?_⟩
        rw [if_neg Bool.false_ne_true]
        cases b1 : inV (.str (wordAt ws 0)) k_OF_TABLES with
        | true =>
          refine iteT ⟨_, rfl, _, rfl, p, _, 1, _, rfl, rfl, SqL.of e1, atI_nat (k := 1) (word_at (by omega)), a, wordAt ws 1, tabs, rfl, S1, fun v H' s2 hv => ⟨readTable tabs (wordAt ws 1), none, v, .non, rfl, s2, hv, rfl, fun _ => by omega, ?_⟩⟩
          unfold readWords
          rw [if_pos ⟨h2, b1⟩]
        | false =>
          refine iteF ⟨_, rfl, p, _, rfl, .inl (SqL.of e1), rfl, _, rfl, ?_⟩
          rw [show decide (V.int (((ws.map V.str).length : Nat) : Int) = V.int 2) = decide (ws.length = 2) from le2, decide_eq_true h2]
          refine iteT ⟨_, rfl, p, _, 0, _, rfl, rfl, SqL.of e1, atI_nat (k := 0) (word_at (by omega)), T.a_OF_COLUMNS, k_OF_COLUMNS, rfl, .inr (T2 H1), rfl, by decide, _, rfl, ?_⟩
          rw [if_neg Bool.false_ne_true]
          cases b2 : inV (.str (wordAt ws 0)) k_OF_COLUMNS with
          | true =>
            refine iteT ⟨_, rfl, _, rfl, p, _, 1, _, rfl, rfl, SqL.of e1, atI_nat (k := 1) (word_at (by omega)), a, wordAt ws 1, tabs, rfl, hws _ hm1, S1, fun v H' s2 hv => ⟨readColumn tabs (wordAt ws 1), none, v, .non, rfl, s2, hv, rfl, fun _ => by omega, ?_⟩⟩
            unfold readWords
            rw [if_neg (fun z => by rw [b1] at z; cases z.2), if_pos ⟨h2, b2⟩]
          | false =>
            refine iteF ⟨_, rfl, p, _, rfl, .inl (SqL.of e1), rfl, _, rfl, ?_⟩
            rw [show decide (V.int (((ws.map V.str).length : Nat) : Int) = V.int 4) = decide (ws.length = 4) from le4, decide_eq_false (show ¬ ws.length = 4 by omega)]
            refine iteF (iteF (none1 ?_))
            unfold readWords
            rw [if_neg (fun z => by rw [b1] at z; cases z.2), if_neg (fun z => by rw [b2] at z; cases z.2), if_neg (fun z => by omega)]
      · rw [decide_eq_false h2]
        refine iteF (iteF ⟨_, rfl, p, _, rfl, .inl (SqL.of e1), rfl, _, rfl, ?_⟩)
        rw [show decide (V.int (((ws.map V.str).length : Nat) : Int) = V.int 2) = decide (ws.length = 2) from le2, decide_eq_false h2]
        refine iteF (iteF ⟨_, rfl, p, _, rfl, .inl (SqL.of e1), rfl, _, rfl, ?_⟩)
        rw [show decide (V.int (((ws.map V.str).length : Nat) : Int) = V.int 4) = decide (ws.length = 4) from le4]
        have r1 : readWords tabs ws = if ws.length = 4 ∧ wordAt ws 0 = ("found" : Str) ∧ wordAt ws 2 = ("in" : Str) then (readColumn tabs (wordAt ws 3)).bind fun g => (readColumn tabs (wordAt ws 1)).map fun p => (wordAt ws 0, p, some g) else none := by
          unfold readWords
          rw [if_neg (fun z => h2 z.1), if_neg (fun z => h2 z.1)]
        by_cases h4 : ws.length = 4
        · rw [decide_eq_true h4]
          have hm1 : wordAt ws 1 ∈ ws := word_mem (by omega)
          have hm3 : wordAt ws 3 ∈ ws := word_mem (by omega)
          refine iteT ⟨_, rfl, p, _, 0, _, rfl, rfl, SqL.of e1, atI_nat (k := 0) (word_at (by omega)), rfl, _, rfl, ?_⟩
          by_cases f0 : wordAt ws 0 = ("found" : Str)
          · rw [decide_eq_true (show V.str (wordAt ws 0) = V.str ("found" : Str) by rw [f0])]
            refine iteT ⟨_, rfl, p, _, 2, _, rfl, rfl, SqL.of e1, atI_nat (k := 2) (word_at (by omega)), rfl, _, rfl, ?_⟩
            by_cases f2 : wordAt ws 2 = ("in" : Str)
            · rw [decide_eq_true (show V.str (wordAt ws 2) = V.str ("in" : Str) by rw [f2])]
              refine iteT ⟨_, rfl, _, rfl, p, _, 1, _, rfl, rfl, SqL.of e1, atI_nat (k := 1) (word_at (by omega)), a, wordAt ws 1, tabs, rfl, hws _ hm1, S1, fun v H2 s2 hv => ?_⟩
              have e2 := s2 _ _ e1
              refine ⟨_, rfl, _, rfl, p, _, 3, _, rfl, rfl, SqL.of e2, atI_nat (k := 3) (word_at (by omega)), a, wordAt ws 3, tabs, rfl, hws _ hm3, S1.same s2, fun v3 H3 s3 hv3 => ?_⟩
              refine ⟨v3, rfl, rfl, _, rfl, ?_⟩
              rw [if_pos ⟨h4, f0, f2⟩] at r1
              cases hg : readColumn tabs (wordAt ws 3) with
              | none =>
                rw [hg] at hv3 r1
                have hv3 : v3 = .non := hv3
                subst hv3
                refine iteT (k .non H3 ((s1.trans s2).trans s3) ?_)
                rw [r1]; rfl
              | some g =>
                rw [hg] at hv3 r1
                obtain ⟨q3, ev3, e3⟩ := id hv3
                rw [decide_eq_false (by rw [ev3]; intro z; cases z)]
                exact iteF ⟨readColumn tabs (wordAt ws 1), some g, v, v3, rfl, s2.trans s3, hv.same s3, hv3, fun _ => by omega, r1⟩
            · rw [decide_eq_false (show ¬ V.str (wordAt ws 2) = V.str ("in" : Str) from fun z => f2 (V.str.inj z))]
              refine iteF (none1 ?_)
              rw [r1, if_neg (fun z => f2 z.2.2)]
          · rw [decide_eq_false (show ¬ V.str (wordAt ws 0) = V.str ("found" : Str) from fun z => f0 (V.str.inj z))]
            refine iteF (iteF (none1 ?_))
            rw [r1, if_neg (fun z => f0 z.2.1)]
        · rw [decide_eq_false h4]
          refine iteF (iteF (none1 ?_))
          rw [r1, if_neg (fun z => h4 z.1)]
    · rintro σ' H' ⟨op, og, pv, gv, rfl, s2, hpv, hgv, hlen, hr0⟩
      have e2 := s2 _ _ e1
      refine ⟨pv, rfl, rfl, _, rfl, ?_⟩
      cases op with
      | none =>
        have hpv : pv = .non := hpv
        subst hpv
        refine iteT (k .non H' (s1.trans s2) ?_)
        rw [hr0]; rfl
      | some pl =>
        obtain ⟨q, eq, e3⟩ := id hpv
        rw [decide_eq_false (by rw [eq]; intro z; cases z)]
        have hl1 := hlen (fun z => by cases z)
        refine iteF ⟨_, rfl, p, _, 0, _, rfl, rfl, SqL.of e2, atI_nat (k := 0) (word_at (by omega)), _, rfl, _, rfl, (by show 3 ≤ sizeLine; decide), fun r H3 hr3 s3 e4 => k _ H3 ((s1.trans s2).trans s3) ?_⟩
        rw [hr0]
        exact ⟨r, pv, gv, rfl, e4, hpv.same s3, hgv.same s3⟩
end
end L2.Pf
set_option maxHeartbeats 2000000
namespace L2.Pf
open PySem PySem.Spec PyProof.Rows L2.Ev L2.Tpd L2.Seti L2.Gq L2.Enf L2.Sett L2.Itr L2.Dls L2.Own
section
variable {P : Program} {w : World} {K : PySem.W.Frag} {mg : Str → Option Value} {base : Heap}
/-- one fact's link, or none -/
def OneL (H : Hp) (b : Bool) (x y : V) (acc : List V) : Prop := if b = true then ∃ q, acc = [.ref q] ∧ H q = some (.tup [x, y]) else acc = []
theorem OneL.keep {H H' : Hp} {b : Bool} {x y : V} {acc : List V} (h : OneL H b x y acc) (k : ∀ q xs, H q = some (.tup xs) → H' q = some (.tup xs)) : OneL H' b x y acc := by
  cases b with
  | true => exact let ⟨q, e, e2⟩ := h; ⟨q, e, k _ _ e2⟩
  | false => exact h
def OneV (H : Hp) (r : Addr) (b : Bool) (x y : V) : Prop := ∃ acc, H r = some (.lst acc) ∧ OneL H b x y acc
def sp_column_links (K : PySem.W.Frag) : Sp := fun vs H Q _ => ∃ (l q : Addr) (y : Str) (x1 x2 : V), vs = [.ref l] ∧ SqL K H l [.ref q] ∧ H q = some (.tup [.str y, x1, x2]) ∧
  ∀ r H', H r = none → Same H H' → OneV H' r (decide (y = ("found" : Str))) x1 x2 → Q (.ref r) H'
theorem tup_keep {H : Hp} {D : Addr} {o : HO} (h : ∃ u, H D = some (.lst u)) : ∀ q xs, H q = some (.tup xs) → (upd H D o) q = some (.tup xs) := fun q xs e => by
  obtain ⟨u, hu⟩ := h
  rw [upd_ne (fun z => by rw [z, hu] at e; cases e)]; exact e
theorem ok_column_links (T : TX K mg) (B : TB T base) : FnOk P w K mg base CX0 1 T.a_column_links T.fd_column_links p_column_links (sp_column_links K) := by
  refine T.F_column_links.ok sc_column_links (fun vs H Q E h => ?_) (fun cdv A outer s H vs Q E hr h => ?_)
  · obtain ⟨l, q, y, x1, x2, rfl, _⟩ := h
    rfl
  · obtain ⟨l, q, y, x1, x2, rfl, hS, hq, k⟩ := h
    refine ⟨_, (pss_one (ps_ret (pe_lc (own := [("word", 1), ("place", 2), ("goal", 3)]) (g := gTup K 3 (gCons (gName 1) (gCons (gName 2) (gCons (gName 3) gNil)))) (tt := _) rfl sc_column_links.nd (pi_list (pv 0)) (blkOk_by (own := [("word", 1), ("place", 2), ("goal", 3)]) (N := n_column_links) (sc := defScope s_column_links) (by decide +kernel)) (fun _ _ _ _ _ => (pg_tup rfl (pgs_cons (pg_name (i := 1) sc_column_links.nd rfl (Or.inl rfl)) (pgs_cons (pg_name (i := 2) sc_column_links.nd rfl (Or.inl rfl)) (pgs_cons (pg_name (i := 3) sc_column_links.nd rfl (Or.inl rfl)) pgs_nil))))) (fun _ _ _ _ _ => pts_one (pt_cmpR op_eq (pv 1) pe_str (nomark _))) (fun _ _ _ _ _ => (pe_tupS (pa_cons (pv 2) (pa_cons (pv 3) pa_nil))))))), ?_⟩
    refine ⟨_, rfl, l, rfl, ⟨_, hS⟩, fun D hD => ?_⟩
    refine lc_grow (n := 1) hD (fun i acc H' => (i = 0 → acc = []) ∧ (i = 1 → OneL H' (decide (y = ("found" : Str))) x1 x2 acc)) (fun i acc H' o hp hu => ⟨hp.1, fun e => (hp.2 e).keep (tup_keep hu)⟩) (fun _ _ => ⟨fun _ => rfl, fun z => by cases z⟩)
      (fun i H' hi s1 => ⟨_, V.ref q, s1.seq hS, by rw [show i = 0 by omega]; rfl⟩) (fun H' s1 => ⟨_, s1.seq hS, Nat.le_refl _⟩) (by decide) (fun i acc H' F G hF hG hi s1 hacc hp v H2 yl => ?_) (fun acc H' s1 ha hp => k D H' hD s1 ⟨acc, ha, hp.2 rfl⟩)
    obtain ⟨eH, ev⟩ := yl
    subst eH
    have hi0 : i = 0 := by omega
    subst hi0
    have ev := ev _ (s1.seq hS)
    cases ev
    have eacc := hp.1 rfl
    subst eacc
    have q1 := s1 _ _ hq
    refine ⟨q, _, rfl, SqT.of q1, rfl, _, _, rfl, _, _, rfl, _, _, rfl, rfl, rfl, ?_⟩
    refine ⟨_, rfl, rfl, _, rfl, ?_⟩
    by_cases f : y = ("found" : Str)
    · rw [decide_eq_true (show V.str y = V.str ("found" : Str) by rw [f])]
      refine iteT ⟨_, rfl, _, rfl, (by show 2 ≤ sizeLine; decide), fun r H3 hr3 s3 e3 => hF _ H3 s3 ⟨fun z => by omega, fun _ => ?_⟩⟩
      unfold OneL
      rw [if_pos (decide_eq_true f)]
      exact ⟨r, rfl, e3⟩
    · rw [decide_eq_false (show ¬ V.str y = V.str ("found" : Str) from fun z => f (V.str.inj z))]
      refine iteF (hG _ (Same.refl _) ⟨fun z => by omega, fun _ => ?_⟩)
      unfold OneL
      rw [if_neg (by rw [decide_eq_false f]; exact Bool.false_ne_true)]
def sp_table_links (K : PySem.W.Frag) : Sp := fun vs H Q _ => ∃ (l q : Addr) (f : Fact) (v1 v2 : V), vs = [.ref l] ∧ SqL K H l [.ref q] ∧ H q = some (.tup [.str f.1, v1, v2]) ∧ PlV H (some f.2.1) v1 ∧ PlV H f.2.2 v2 ∧ (f.1 = ("found" : Str) → f.2.2 ≠ none) ∧
  ∀ r H', H r = none → Same H H' → OneV H' r (decide (f.1 = ("found" : Str))) (.str f.2.1.1) (.str ((f.2.2.map (·.1)).getD Str.empty)) → Q (.ref r) H'
theorem ok_table_links (T : TX K mg) (B : TB T base) : FnOk P w K mg base CX0 2 T.a_table_links T.fd_table_links p_table_links (sp_table_links K) := by
  refine T.F_table_links.ok sc_table_links (fun vs H Q E h => ?_) (fun cdv A outer s H vs Q E hr h => ?_)
  · obtain ⟨l, q, f, v1, v2, rfl, _⟩ := h
    rfl
  · obtain ⟨l, q, f, v1, v2, rfl, hS, hq, p1, p2, hff, k⟩ := h
    refine ⟨_, (pss_one (ps_ret (pe_lc (own := [("place", 1), ("goal", 2)]) (g := gTup K 2 (gCons (gName 1) (gCons (gName 2) gNil))) (tt := tYes) rfl sc_table_links.nd (pi_list (pe_call (ok_column_links T B) (hr.mono (by decide)) rfl T.g_column_links T.F_column_links.kp T.b_column_links .nil pass0 (pa_cons (pv 0) pa_nil))) (blkOk_by (own := [("place", 1), ("goal", 2)]) (N := n_table_links) (sc := defScope s_table_links) (by decide +kernel)) (fun _ _ _ _ _ => (pg_tup rfl (pgs_cons (pg_name (i := 1) sc_table_links.nd rfl (Or.inl rfl)) (pgs_cons (pg_name (i := 2) sc_table_links.nd rfl (Or.inl rfl)) pgs_nil)))) (fun _ _ _ _ _ => pts_nil) (fun _ _ _ _ _ => (pe_tupS (pa_cons (pe_ix (ix_tupK (K := K)) (pv 1) pe_int (fun _ _ => rfl)) (pa_cons (pe_ix (ix_tupK (K := K)) (pv 2) pe_int (fun _ _ => rfl)) pa_nil))))))), ?_⟩
    refine ⟨_, rfl, l, q, f.1, v1, v2, rfl, hS, hq, fun c Hc hc sc ec => ?_⟩
    obtain ⟨ac, ea, eo⟩ := ec
    refine ⟨c, rfl, ⟨_, SqL.of ea⟩, fun D hD => ?_⟩
    have hn : ac.length ≤ 1 := by
      unfold OneL at eo
      split at eo
      · obtain ⟨z, e, _⟩ := eo
        rw [e]; exact Nat.le_refl 1
      · rw [eo]; exact Nat.zero_le _
    refine lc_grow (n := ac.length) hD (fun i acc H' => (i = 0 → acc = []) ∧ (i = ac.length → OneL H' (decide (f.1 = ("found" : Str))) (.str f.2.1.1) (.str ((f.2.2.map (·.1)).getD Str.empty)) acc)) (fun i acc H' o hp hu => ⟨hp.1, fun e => (hp.2 e).keep (tup_keep hu)⟩) (fun H' s1 => ⟨fun _ => rfl, fun z => ?_⟩)
      (fun i H' hi s1 => ⟨_, ac[i], SqL.of (s1 _ _ ea), List.getElem?_eq_getElem hi⟩) (fun H' s1 => ⟨_, SqL.of (s1 _ _ ea), Nat.le_refl _⟩) (Nat.lt_of_le_of_lt hn (by decide)) (fun i acc H' F G hF hG hi s1 hacc hp v H2 yl => ?_) (fun acc H' s1 ha hp => k D H' (sc.free hD) (sc.trans s1) ⟨acc, ha, hp.2 rfl⟩)
    · unfold OneL at eo ⊢
      split at eo
      · obtain ⟨z2, e, _⟩ := eo
        rw [e] at z; cases z
      · rw [if_neg (by assumption)]
    · obtain ⟨eH, ev⟩ := yl
      subst eH
      have hi0 : i = 0 := by omega
      subst hi0
      have ev := ev _ (SqL.of (s1 _ _ ea))
      have eacc := hp.1 rfl
      subst eacc
      by_cases ff : f.1 = ("found" : Str)
      · unfold OneL at eo
        rw [if_pos (decide_eq_true ff)] at eo
        obtain ⟨z, e, e2⟩ := eo
        subst e
        cases ev
        obtain ⟨q1, eq1, h1⟩ := p1
        cases hg : f.2.2 with
        | none => exact absurd hg (hff ff)
        | some g =>
          rw [hg] at p2
          obtain ⟨q2, eq2, h2⟩ := p2
          subst eq1 eq2
          have s0 := sc.trans s1
          refine ⟨z, _, rfl, SqT.of (s1 _ _ e2), rfl, _, _, rfl, _, _, rfl, rfl, rfl, ?_⟩
          refine ⟨_, rfl, q1, _, 0, _, rfl, rfl, SqT.of (s0 _ _ h1), rfl, _, rfl, q2, _, 0, _, rfl, rfl, SqT.of (s0 _ _ h2), rfl, (by show 2 ≤ sizeLine; decide), fun r H3 hr3 s3 e3 => hF _ H3 s3 ⟨fun z => by omega, fun _ => ?_⟩⟩
          unfold OneL
          rw [if_pos (decide_eq_true ff), hg]
          exact ⟨r, rfl, e3⟩
      · unfold OneL at eo
        rw [if_neg (by rw [decide_eq_false ff]; exact Bool.false_ne_true)] at eo
        rw [eo] at hi
        exact absurd hi (Nat.not_lt_zero _)
end
end L2.Pf
set_option maxHeartbeats 2000000
namespace L2.Pf
open PySem PySem.Spec PyProof.Rows L2.Ev L2.Tpd L2.Seti L2.Gq L2.Enf L2.Sett L2.Itr L2.Dls L2.Own
section
variable {P : Program} {w : World} {K : PySem.W.Frag} {mg : Str → Option Value} {base : Heap}
abbrev Links := List (Str × Str)
def LinksAt (H : Hp) (l : Addr) (L : Links) : Prop := ∃ qs : List Addr, H l = some (.lst (qs.map V.ref)) ∧ Paired (fun q (p : Str × Str) => H q = some (.tup [.str p.1, .str p.2])) qs L
theorem LinksAt.same {H H' : Hp} {l : Addr} {L : Links} (h : LinksAt H l L) (s : Same H H') : LinksAt H' l L := let ⟨qs, e, p⟩ := h; ⟨qs, s _ _ e, Paired.mapP p fun _ _ z => s _ _ z⟩
/-- from x one comes to y -/
inductive Reach (L : Links) (x : Str) : Str → Prop
  | here : Reach L x x
  | step {y z : Str} : Reach L x y → (y, z) ∈ L → Reach L x z
def keysIs (kvs : List (Key × V)) (S : List Str) : Prop := kvs.map (·.1) = S.map Sum.inr
theorem keys_val {kvs : List (Key × V)} {S : List Str} (h : keysIs kvs S) (y : Str) : (valV kvs (.inr y)).isSome = decide (y ∈ S) := by
  induction kvs generalizing S with
  | nil =>
    cases S with
    | nil => rfl
    | cons _ _ => cases h
  | cons a r ih =>
    cases S with
    | nil => cases h
    | cons b S =>
      unfold keysIs at h
      rw [List.map_cons, List.map_cons] at h
      injection h with h1 h2
      have i := ih (S := S) h2
      unfold valV at i ⊢
      rw [List.find?_cons]
      by_cases e : b = y
      · subst e
        rw [decide_eq_true (show a.1 = Sum.inr b from h1)]
        simp
      · rw [decide_eq_false (show ¬ a.1 = Sum.inr y from fun z => e (Sum.inr.inj (h1.symm.trans z)))]
        rw [i]
        have e2 : ¬ y = b := fun z => e z.symm
        simp [e2]
theorem keys_put {kvs : List (Key × V)} {S : List Str} (h : keysIs kvs S) {y : Str} (hn : y ∉ S) (v : V) : putK kvs (.inr y) v = kvs ++ [(.inr y, v)] := by
  have z : (kvs.any fun kv => decide (kv.1 = Sum.inr y)) = false := by
    rw [List.any_eq_false]
    intro kv hk e
    have e : kv.1 = Sum.inr y := of_decide_eq_true e
    have m : Sum.inr y ∈ S.map (Sum.inr : Str → Key) := by
      rw [← h, ← e]; exact List.mem_map.mpr ⟨kv, hk, rfl⟩
    obtain ⟨u, hu, eu⟩ := List.mem_map.mp m
    exact hn (by rw [← Sum.inr.inj eu]; exact hu)
  unfold putK
  rw [z]; rfl
/-- how many links go to a name that is not yet known -/
def open_ (L : Links) (S : List Str) : Nat := (L.filter fun p => decide (p.2 ∉ S)).length
theorem open_put {L : Links} {S : List Str} {p : Str × Str} (hp : p ∈ L) (hn : p.2 ∉ S) : open_ L (S ++ [p.2]) < open_ L S := by
  unfold open_
  induction L with
  | nil => cases hp
  | cons a r ih =>
    have le : ∀ r : Links, (r.filter fun p' => decide (p'.2 ∉ S ++ [p.2])).length ≤ (r.filter fun p' => decide (p'.2 ∉ S)).length := by
      intro r
      induction r with
      | nil => exact Nat.le_refl _
      | cons b r ih2 =>
        by_cases h1 : b.2 ∈ S
        · have h2 : b.2 ∈ S ++ [p.2] := List.mem_append_left _ h1
          simp only [List.filter_cons, h1, h2, not_true, decide_false, Bool.false_eq_true, if_false]
          exact ih2
        · by_cases h2 : b.2 ∈ S ++ [p.2]
          · simp only [List.filter_cons, h1, h2, not_true, not_false_eq_true, decide_false, decide_true, Bool.false_eq_true, if_false, if_true, List.length_cons]
            omega
          · simp only [List.filter_cons, h1, h2, not_false_eq_true, decide_true, if_true, List.length_cons]
            omega
    rcases List.mem_cons.mp hp with e | h
    · subst e
      have h2 : p.2 ∈ S ++ [p.2] := List.mem_append_right _ (List.mem_singleton.mpr rfl)
      have q := le r
      simp only [List.filter_cons, hn, h2, not_true, not_false_eq_true, decide_false, decide_true, Bool.false_eq_true, if_false, if_true, List.length_cons]
      omega
    · have q := ih h
      by_cases h1 : a.2 ∈ S
      · have h2 : a.2 ∈ S ++ [p.2] := List.mem_append_left _ h1
        simp only [List.filter_cons, h1, h2, not_true, decide_false, Bool.false_eq_true, if_false]
        exact q
      · by_cases h2 : a.2 ∈ S ++ [p.2]
        · simp only [List.filter_cons, h1, h2, not_true, not_false_eq_true, decide_false, decide_true, Bool.false_eq_true, if_false, if_true, List.length_cons]
          omega
        · simp only [List.filter_cons, h1, h2, not_false_eq_true, decide_true, if_true, List.length_cons]
          omega
def sp_reached : Sp := fun vs H Q _ => ∃ (x : Str) (l : Addr) (L : Links), vs = [.str x, .ref l] ∧ LinksAt H l L ∧ L.length ≤ 400 ∧
  ∀ d H' kvs S, H d = none → Same H H' → H' d = some (.dK kvs) → keysIs kvs S → (∀ y, y ∈ S ↔ Reach L x y) → Q (.ref d) H'
theorem ok_reached (T : TX K mg) (B : TB T base) : FnOk P w K mg base CX0 1 T.a_reached T.fd_reached p_reached sp_reached := by
  refine T.F_reached.ok sc_reached (fun vs H Q E h => ?_) (fun cdv A outer s H vs Q E hr h => ?_)
  · obtain ⟨x, l, L, rfl, _⟩ := h
    rfl
  · obtain ⟨x, l, L, rfl, hL, hl4, k⟩ := h
    refine ⟨_, (pss_cons (ps_set (i := 2) sc_reached.nd rfl (Or.inl rfl) (pe_disp (pps_cons (pv 0) pe_bl pps_nil) (by rfl) (by rfl) (fun z => by cases z) (by decide)))
  (pss_cons (ps_set (i := 3) sc_reached.nd rfl (Or.inl rfl) (pe_lstS (pa_cons (pv 0) pa_nil)))
  (pss_cons (ps_while PassesOwn.never (pt_truth (pv 3) (by intro _; rfl)) (pss_cons (ps_set (i := 4) sc_reached.nd rfl (Or.inl rfl) (pe_bm0 PySem.F.plainAttrs_list PySem.F.slot_list_pop PySem.F.type_list_pop mt_pop (pv 3)))
  (pss_one (ps_for PassesOwn.never rfl (pi_list (pv 1)) (pg_tup rfl (pgs_cons (pg_name (i := 5) sc_reached.nd rfl (Or.inl rfl)) (pgs_cons (pg_name (i := 6) sc_reached.nd rfl (Or.inl rfl)) pgs_nil))) (pss_one (ps_if (PW.pt (pw_and (pt_cmpR op_eq (pv 5) (pv 4) (nomark _)) (pw_and1 (pt_cmp (pc_dnotin (hu_of hr) (pv 6) (pv 2)))))) (pss_cons (ps_dput (hu_of hr) (pv 2) (pv 6) pe_bl rfl)
  (pss_one (ps_expr (pe_bm PySem.F.plainAttrs_list PySem.F.slot_list_append PySem.F.type_list_append mt_appendS (pv 3) (pa_cons (pv 6) pa_nil))))) pss_nil))))))
  (pss_one (ps_ret (pv 2)))))), ?_⟩
    intro d hd
    refine ⟨_, rfl, upd_same, [(.inr x, .bl true)], rfl, (by show 1 ≤ 15; decide), ?_⟩
    have sd0 : Same H (upd (upd H d (.dK [])) d (.dK (mergeK [] [(Sum.inr x, V.bl true)]))) := Same.own (Same.own (Same.refl H) hd) hd
    have dd0 : (upd (upd H d (.dK [])) d (.dK (mergeK [] [(Sum.inr x, V.bl true)]))) d = some (.dK [(.inr x, .bl true)]) := upd_same
    generalize upd (upd H d (.dK [])) d (.dK (mergeK [] [(Sum.inr x, V.bl true)])) = H1 at sd0 dd0
    refine ⟨_, rfl, (by show 1 ≤ sizeLine; decide), fun wl H2 hw s12 ew => ?_⟩
    have s02 := sd0.trans s12
    have d2 := s12 _ _ dd0
    have hwH : H wl = none := sd0.free hw
    have ndw : d ≠ wl := fun z => by rw [← z, dd0] at hw; cases hw
    obtain ⟨qs, hl, hq⟩ := hL
    have hql : qs.length = L.length := Paired.length hq
    refine ⟨fun m σ H' => ∃ (kvs : List (Key × V)) (S Wt : List Str) (s4 s5 s6 : Option V), σ = [some (.str x), some (.ref l), some (.ref d), some (.ref wl), s4, s5, s6] ∧ Same H H' ∧ H' d = some (.dK kvs) ∧ keysIs kvs S ∧ H' wl = some (.lst (Wt.map V.str)) ∧
      m = 2 * open_ L S + Wt.length ∧ Wt.length + open_ L S ≤ 401 ∧ S.length + open_ L S ≤ 401 ∧ (∀ y ∈ S, Reach L x y) ∧ x ∈ S ∧ (∀ y ∈ Wt, y ∈ S) ∧ ∀ y z, y ∈ S → y ∉ Wt → (y, z) ∈ L → z ∈ S,
      ⟨_, [(.inr x, .bl true)], [x], [x], none, none, none, rfl, s02, d2, rfl, ew, rfl, ?_, ?_, fun y hy => ?_, List.mem_singleton.mpr rfl, fun y hy => hy, fun y z hy hn => absurd hy hn⟩, ?_⟩
    · have q : open_ L [x] ≤ L.length := List.length_filter_le _ _
      show 1 + open_ L [x] ≤ 401
      omega
    · have q : open_ L [x] ≤ L.length := List.length_filter_le _ _
      show 1 + open_ L [x] ≤ 401
      omega
    · rw [List.mem_singleton.mp hy]; exact Reach.here
    rintro m σ H' ⟨kvs, S, Wt, s4, s5, s6, rfl, s0, dk, hk, hwt, rfl, b1, b2, hre, hx, hsub, hcl⟩
    refine ⟨_, rfl, _, .inl ⟨_, SqL.of hwt, rfl⟩, ?_⟩
    by_cases hne : Wt = []
    · subst hne
      refine iteF ⟨_, rfl, k d H' kvs S hd s0 dk hk fun y => ⟨hre y, fun r => ?_⟩⟩
      induction r with
      | here => exact hx
      | step r1 hm ih => exact hcl _ _ ih (by simp) hm
    · obtain ⟨W0, here, rfl⟩ : ∃ a b, Wt = a ++ [b] := ⟨Wt.dropLast, Wt.getLast hne, (List.dropLast_concat_getLast hne).symm⟩
      have emp : ((W0 ++ [here]).map V.str).isEmpty = false := by rw [List.map_append]; simp
      rw [emp]
      have hlast : ((W0 ++ [here]).map V.str)[((W0 ++ [here]).map V.str).length - 1]? = some (V.str here) := by simp
      have hdrop : ((W0 ++ [here]).map V.str).dropLast = W0.map V.str := by rw [List.map_append]; simp
      have hlenW : (W0 ++ [here]).length = W0.length + 1 := by simp
      refine iteT ⟨fun σ' H2 => ∃ m', m' < 2 * open_ L S + (W0 ++ [here]).length ∧ ∃ (kvs : List (Key × V)) (S Wt : List Str) (s4 s5 s6 : Option V), σ' = [some (.str x), some (.ref l), some (.ref d), some (.ref wl), s4, s5, s6] ∧ Same H H2 ∧ H2 d = some (.dK kvs) ∧ keysIs kvs S ∧ H2 wl = some (.lst (Wt.map V.str)) ∧
        m' = 2 * open_ L S + Wt.length ∧ Wt.length + open_ L S ≤ 401 ∧ S.length + open_ L S ≤ 401 ∧ (∀ y ∈ S, Reach L x y) ∧ x ∈ S ∧ (∀ y ∈ Wt, y ∈ S) ∧ ∀ y z, y ∈ S → y ∉ Wt → (y, z) ∈ L → z ∈ S, fun σ' H2 z => z, ?_⟩
      refine ⟨_, rfl, .inl ⟨rfl, _, SqL.of hwt⟩, wl, _, _, rfl, rfl, hwt, hlast, ?_⟩
      rw [hdrop]
      have sw : Same H (upd H' wl (.lst (W0.map V.str))) := Same.own s0 hwH
      have ww : (upd H' wl (.lst (W0.map V.str))) wl = some (.lst (W0.map V.str)) := upd_same
      have dw : (upd H' wl (.lst (W0.map V.str))) d = some (.dK kvs) := by rw [upd_ne ndw]; exact dk
      generalize upd H' wl (.lst (W0.map V.str)) = H3 at sw ww dw
      generalize hM : 2 * open_ L S + (W0 ++ [here]).length = M at *
      have hM2 : 2 * open_ L S + W0.length < M := by rw [← hM, hlenW]; omega
      have hhere : here ∈ S := hsub _ (List.mem_append_right _ (List.mem_singleton.mpr rfl))
      refine ⟨_, rfl, l, rfl, ⟨_, SqL.of (sw _ _ hl)⟩, fun i m2 σ H2 => ∃ (kvs : List (Key × V)) (S Wt : List Str) (s5 s6 : Option V), σ = [some (.str x), some (.ref l), some (.ref d), some (.ref wl), some (.str here), s5, s6] ∧ m2 = L.length - i ∧ i ≤ L.length ∧ Same H H2 ∧ H2 d = some (.dK kvs) ∧ keysIs kvs S ∧ H2 wl = some (.lst (Wt.map V.str)) ∧
        2 * open_ L S + Wt.length < M ∧ Wt.length + open_ L S ≤ 401 ∧ S.length + open_ L S ≤ 401 ∧ (∀ y ∈ S, Reach L x y) ∧ x ∈ S ∧ (∀ y ∈ Wt, y ∈ S) ∧ here ∈ S ∧ (∀ y z, y ∈ S → y ∉ Wt → y ≠ here → (y, z) ∈ L → z ∈ S) ∧ ∀ j p, j < i → L[j]? = some p → p.1 = here → p.2 ∈ S,
        ⟨_, kvs, S, W0, s5, s6, rfl, rfl, Nat.zero_le _, sw, dw, hk, ww, hM2, by rw [hlenW] at b1; omega, b2, hre, hx, fun y hy => hsub y (List.mem_append_left _ hy), hhere, fun y z hy hn hh hm => hcl y z hy (fun q => ?_) hm, fun j p hj => absurd hj (Nat.not_lt_zero _)⟩, ?_⟩
      · rcases List.mem_append.mp q with q | q
        · exact hn q
        · exact hh (List.mem_singleton.mp q)
      clear hcl hre hx hsub hhere hM2 b1 b2 hk dw ww sw
      rintro i m2 σ H4 ⟨kvs, S, Wt, s5, s6, rfl, rfl, hi, s4, dk, hk, hw4, hlt4, c1, c2, hre, hx, hsub, hhere, hcl, hdone⟩
      by_cases hlt : i < L.length
      · have hqi : i < qs.length := by omega
        obtain ⟨p, hp⟩ : ∃ p, L[i]? = some p := ⟨L[i], List.getElem?_eq_getElem hlt⟩
        have hpair : H (qs[i]) = some (.tup [.str p.1, .str p.2]) := by
          have get : ∀ {a : List Addr} {b : Links} {n : Nat} {q : Addr} {z : Str × Str}, Paired (fun q (p : Str × Str) => H q = some (.tup [.str p.1, .str p.2])) a b → a[n]? = some q → b[n]? = some z → H q = some (.tup [.str z.1, .str z.2]) := by
            intro a b n q z h
            induction h generalizing n with
            | nil => intro e; cases e
            | cons g t ih =>
              intro e1 e2
              cases n with
              | zero => cases e1; cases e2; exact g
              | succ n => exact ih (by simpa using e1) (by simpa using e2)
          exact get hq (List.getElem?_eq_getElem hqi) hp
        refine .inr ⟨⟨_, V.ref qs[i], SqL.of (s4 _ _ hl), by rw [List.getElem?_map, List.getElem?_eq_getElem hqi]; rfl⟩, fun σ H2 => ∃ (kvs : List (Key × V)) (S Wt : List Str) (s5 s6 : Option V), σ = [some (.str x), some (.ref l), some (.ref d), some (.ref wl), some (.str here), s5, s6] ∧ Same H H2 ∧ H2 d = some (.dK kvs) ∧ keysIs kvs S ∧ H2 wl = some (.lst (Wt.map V.str)) ∧
          2 * open_ L S + Wt.length < M ∧ Wt.length + open_ L S ≤ 401 ∧ S.length + open_ L S ≤ 401 ∧ (∀ y ∈ S, Reach L x y) ∧ x ∈ S ∧ (∀ y ∈ Wt, y ∈ S) ∧ here ∈ S ∧ (∀ y z, y ∈ S → y ∉ Wt → y ≠ here → (y, z) ∈ L → z ∈ S) ∧ ∀ j p, j < i + 1 → L[j]? = some p → p.1 = here → p.2 ∈ S,
          fun σ H2 ⟨kvs, S, Wt, s5, s6, e1, e⟩ => ⟨L.length - (i + 1), by omega, kvs, S, Wt, s5, s6, e1, rfl, hlt, e⟩, ?_⟩
        rintro v H5 ⟨rfl, hv⟩
        have hv := hv _ (SqL.of (s4 _ _ hl))
        rw [List.getElem?_map, List.getElem?_eq_getElem hqi] at hv
        cases hv
        have more : ∀ {S2 : List Str}, (∀ y ∈ S, y ∈ S2) → (p.1 = here → p.2 ∈ S2) → ∀ j p', j < i + 1 → L[j]? = some p' → p'.1 = here → p'.2 ∈ S2 := fun {S2} hS h1 j p' hj e eh => by
          by_cases hji : j = i
          · subst hji
            rw [hp] at e
            cases e
            exact h1 eh
          · exact hS _ (hdone j p' (by omega) e eh)
        refine ⟨qs[i], _, rfl, SqT.of (s4 _ _ hpair), rfl, _, _, rfl, _, _, rfl, rfl, ?_⟩
        refine ⟨_, rfl, _, rfl, rfl, _, rfl, ?_⟩
        by_cases hst : p.1 = here
        · rw [decide_eq_true (show V.str p.1 = V.str here by rw [hst])]
          refine iteT ⟨_, rfl, _, rfl, d, _, rfl, DGet.k (k := .inr p.2) dk, _, rfl, ?_⟩
          rw [keys_val hk]
          by_cases hin : p.2 ∈ S
          · rw [decide_eq_true hin]
            exact iteF ⟨kvs, S, Wt, _, _, rfl, s4, dk, hk, hw4, hlt4, c1, c2, hre, hx, hsub, hhere, hcl, more (fun _ z => z) fun _ => hin⟩
          · rw [decide_eq_false hin]
            have hpm : p ∈ L := List.mem_of_getElem? hp
            have hop := open_put hpm hin
            have hkl : kvs.length = S.length := by
              have z := congrArg List.length hk
              rw [List.length_map, List.length_map] at z
              exact z
            have ew5 : (upd H5 d (.dK (putK kvs (.inr p.2) (.bl true)))) wl = some (.lst (Wt.map V.str)) := by rw [upd_ne (Ne.symm ndw)]; exact hw4
            refine iteT ⟨_, rfl, _, rfl, d, _, rfl, DPut.k (k := .inr p.2) dk (small1000 (by omega)), ?_⟩
            refine ⟨_, rfl, .inl ⟨rfl, _, SqL.of ew5⟩, _, rfl, wl, _, _, rfl, rfl, ew5, small1000 (by rw [List.length_map]; omega), fun H6 b6 e6 => ?_⟩
            have d6 : H6 d = some (.dK (kvs ++ [(.inr p.2, .bl true)])) := by
              rw [b6 d _ ndw upd_same, keys_put hk hin]
            refine ⟨_, S ++ [p.2], Wt ++ [p.2], _, _, rfl, fun b o e => ?_, d6, ?_, by rw [e6, List.map_append]; rfl, ?_, ?_, ?_, fun y hy => ?_, List.mem_append_left _ hx, fun y hy => ?_, List.mem_append_left _ hhere, fun y z hy hn hh hm => ?_, more (fun y hy => List.mem_append_left _ hy) fun _ => List.mem_append_right _ (List.mem_singleton.mpr rfl)⟩
            · have nb1 : b ≠ wl := fun z => by rw [z, hwH] at e; cases e
              have nb2 : b ≠ d := fun z => by rw [z, hd] at e; cases e
              exact b6 b o nb1 (by rw [upd_ne nb2]; exact s4 _ _ e)
            · unfold keysIs at hk ⊢
              rw [List.map_append, List.map_append, hk]; rfl
            · rw [List.length_append, List.length_singleton]; omega
            · rw [List.length_append, List.length_singleton]; omega
            · rw [List.length_append, List.length_singleton]; omega
            · rcases List.mem_append.mp hy with h | h
              · exact hre y h
              · rw [List.mem_singleton.mp h]
                exact Reach.step (hre here hhere) (by rw [← hst]; exact hpm)
            · rcases List.mem_append.mp hy with h | h
              · exact List.mem_append_left _ (hsub y h)
              · exact List.mem_append_right _ h
            · rcases List.mem_append.mp hy with h | h
              · exact List.mem_append_left _ (hcl y z h (fun q => hn (List.mem_append_left _ q)) hh hm)
              · exact absurd (List.mem_append_right _ h) hn
        · rw [decide_eq_false (show ¬ V.str p.1 = V.str here from fun z => hst (V.str.inj z))]
          exact iteF (iteF ⟨kvs, S, Wt, _, _, rfl, s4, dk, hk, hw4, hlt4, c1, c2, hre, hx, hsub, hhere, hcl, more (fun _ z => z) fun z => absurd z hst⟩)
      · have hin : i = L.length := by omega
        subst hin
        refine .inl ⟨⟨_, SqL.of (s4 _ _ hl), by rw [List.length_map]; omega⟩, 2 * open_ L S + Wt.length, hlt4, kvs, S, Wt, _, _, _, rfl, s4, dk, hk, hw4, rfl, c1, c2, hre, hx, hsub, fun y z hy hn hm => ?_⟩
        by_cases hh : y = here
        · subst hh
          obtain ⟨j, hj, ej⟩ := List.getElem_of_mem hm
          exact hdone j (y, z) hj (by rw [List.getElem?_eq_getElem hj, ej]) rfl
        · exact hcl y z hy hn hh hm
end
end L2.Pf
set_option maxHeartbeats 2000000
namespace L2.Pf
open PySem PySem.Spec PyProof.Rows L2.Ev L2.Tpd L2.Seti L2.Gq L2.Enf L2.Sett L2.Itr L2.Dls L2.Own
section
variable {P : Program} {w : World} {K : PySem.W.Frag} {mg : Str → Option Value} {base : Heap}
/-- a fact's link leads back: from its goal one comes to its start -/
def Back (L : Links) (f : Fact) : Prop := f.1 = ("found" : Str) ∧ Reach L ((f.2.2.map (·.1)).getD Str.empty) f.2.1.1
def sp_leads_back (P : Addr) : Sp := fun vs H Q _ => ∃ (q l : Addr) (f : Fact) (v1 v2 : V) (L : Links), vs = [.ref q, .ref l] ∧ H q = some (.tup [.str f.1, v1, v2]) ∧ PlV H (some f.2.1) v1 ∧ PlV H f.2.2 v2 ∧ (f.1 = ("found" : Str) → f.2.2 ≠ none) ∧ LinksAt H l L ∧ L.length ≤ 400 ∧ H P = some (TabX P) ∧
  ∀ (b : Bool) H', Same H H' → (b = true ↔ Back L f) → Q (.bl b) H'
theorem ok_leads_back (T : TX K mg) (B : TB T base) : FnOk P w K mg base CX0 4 T.a_leads_back T.fd_leads_back p_leads_back (sp_leads_back T.P_leads_back) := by
  classical
  refine Fun.okC T.F_leads_back T.t_leads_back sc_leads_back (fun vs H Q E h => ?_) (fun A outer s H vs Q E hr h => ?_)
  · obtain ⟨q, l, f, v1, v2, L, rfl, _⟩ := h
    rfl
  · obtain ⟨q, l, f, v1, v2, L, rfl, hq, p1, p2, hff, hL, hl4, hP, k⟩ := h
    refine ⟨_, (pss_one (ps_ret (pe_anyQ (own := [("start", 2), ("goal", 3)]) (gt := gTup K 2 (gCons (gName 2) (gCons (gName 3) gNil))) (tt := tYes) hr (by rfl) T.z_any  B.b_leads_back rfl ⟨blkOk_by (own := [("start", 2), ("goal", 3)]) (N := n_leads_back) (sc := defScope s_leads_back) (by decide +kernel), rfl, by decide +kernel, rfl⟩ sc_leads_back.nd (pi_list (pe_call (ok_table_links T B) (hr.mono (by decide)) rfl T.g_table_links T.F_table_links.kp T.b_table_links .nil pass0 (pa_cons (pe_lstS (pa_cons (pv 0) pa_nil)) pa_nil))) (fun _ _ _ _ _ _ _ hr => (pg_tup rfl (pgs_cons (pg_name (i := 2) sc_leads_back.nd rfl (Or.inl rfl)) (pgs_cons (pg_name (i := 3) sc_leads_back.nd rfl (Or.inl rfl)) pgs_nil)))) (fun _ _ _ _ _ _ _ hr => pts_nil) (fun _ _ _ _ _ _ _ hr => (pe_cmp (pc_din (hu_of hr) (pv 2) (pe_call (ok_reached T B) (hr.mono (by decide)) rfl T.g_reached T.F_reached.kp T.b_reached .nil pass0 (pa_cons (pv 3) (pa_cons (pv 1) pa_nil))))))))), ?_⟩
    refine ⟨_, rfl, (by show 1 ≤ sizeLine; decide), fun c Hc hc sc ec => ?_⟩
    refine ⟨c, q, f, v1, v2, rfl, SqL.of ec, sc _ _ hq, p1.same sc, p2.same sc, hff, fun r Hr hr1 sr er => ?_⟩
    obtain ⟨acc, ea, eo⟩ := er
    have s0 := sc.trans sr
    refine ⟨r, rfl, ⟨_, SqL.of ea⟩, s0 _ _ hP, ?_⟩
    refine q_turns (n := acc.length) (fun _ => decide (Reach L ((f.2.2.map (·.1)).getD Str.empty) f.2.1.1)) (fun _ H4 => Same Hr H4) (Same.refl _) (fun H4 s4 => ⟨_, SqL.of (s4 _ _ ea), Nat.le_refl _⟩) (fun i H4 hi s4 => ⟨_, acc[i], SqL.of (s4 _ _ ea), List.getElem?_eq_getElem hi⟩)
      (fun i v H4 H5 Qc hi s4 y hq2 => ?_) (fun H4 s4 hf => k _ H4 (s0.trans s4) ?_) (fun i H4 hi s4 hf hb => k _ H4 (s0.trans s4) ?_)
    · obtain ⟨eH, ev⟩ := y
      subst eH
      have ev := ev _ (SqL.of (s4 _ _ ea))
      by_cases ff : f.1 = ("found" : Str)
      · unfold OneL at eo
        rw [if_pos (decide_eq_true ff)] at eo
        obtain ⟨z, e, e2⟩ := eo
        subst e
        have hi0 : i = 0 := by simpa using hi
        subst hi0
        cases ev
        refine ⟨z, _, rfl, SqT.of (s4 _ _ e2), rfl, _, _, rfl, _, _, rfl, rfl, rfl, ?_⟩
        refine ⟨_, rfl, _, rfl, _, rfl, _, l, L, rfl, hL.same (s0.trans s4), hl4, fun d H6 kvs S hd s6 dk hk hS => ⟨d, _, rfl, DGet.k (k := .inr f.2.1.1) dk, ?_⟩⟩
        rw [keys_val hk]
        have e9 : decide (f.2.1.1 ∈ S) = decide (Reach L ((f.2.2.map (·.1)).getD Str.empty) f.2.1.1) := by
          by_cases h : f.2.1.1 ∈ S
          · rw [decide_eq_true h, decide_eq_true ((hS _).mp h)]
          · rw [decide_eq_false h, decide_eq_false (fun z => h ((hS _).mpr z))]
        rw [e9]
        exact hq2 H6 (s4.trans s6)
      · unfold OneL at eo
        rw [if_neg (by rw [decide_eq_false ff]; exact Bool.false_ne_true)] at eo
        rw [eo] at hi
        exact absurd hi (Nat.not_lt_zero _)
    · refine ⟨fun z => (by cases z), fun hb => ?_⟩
      obtain ⟨h1, h2⟩ := hb
      unfold OneL at eo
      rw [if_pos (decide_eq_true h1)] at eo
      obtain ⟨z, e, _⟩ := eo
      have hz := hf 0 (by rw [e]; exact Nat.zero_lt_one)
      rw [decide_eq_true h2] at hz
      cases hz
    · refine ⟨fun _ => ⟨?_, of_decide_eq_true hf⟩, fun _ => rfl⟩
      by_cases ff : f.1 = ("found" : Str)
      · exact ff
      · unfold OneL at eo
        rw [if_neg (by rw [decide_eq_false ff]; exact Bool.false_ne_true)] at eo
        rw [eo] at hi
        exact absurd hi (Nat.not_lt_zero _)
end
end L2.Pf
set_option maxHeartbeats 2000000
namespace L2.Pf
open PySem PySem.Spec PyProof.Rows L2.Ev L2.Tpd L2.Seti L2.Gq L2.Enf L2.Sett L2.Itr L2.Dls L2.Own L2.Ent
section
variable {P : Program} {w : World} {K : PySem.W.Frag} {mg : Str → Option Value} {base : Heap}
theorem ok_BadFact_init (T : TX K mg) : FnOk P w K mg base CX0 1 T.a_BadFact_init T.fd_BadFact_init p_BadFact_init (sp_ini1 T.x_BadFact.C "index") := by
  refine T.F_BadFact_init.ok sc_BadFact_init (fun vs H Q E h => ?_) (fun cdv A outer s H vs Q E hr h => ?_)
  · obtain ⟨a, v, rfl, _⟩ := h
    rfl
  · obtain ⟨a, v, rfl, ha, k⟩ := h
    refine ⟨_, (pss_one (ps_ost (pv 0) (pv 1))), ?_⟩
    exact ⟨_, rfl, _, rfl, a, T.x_BadFact.C, rfl, T.x_BadFact.oex, T.f_BadFact_init_index, .inl ⟨ha, fun dx n ne => k dx n ne⟩⟩
end
end L2.Pf
set_option maxHeartbeats 2000000
namespace L2.Pf
open PySem PySem.Spec PyProof.Rows L2.Ev L2.Tpd L2.Seti L2.Gq L2.Enf L2.Sett L2.Itr L2.Dls L2.Own L2.Ent
section
variable {P : Program} {w : World} {K : PySem.W.Frag} {mg : Str → Option Value} {base : Heap}
def linkOf (f : Fact) : Links := if f.1 = ("found" : Str) then [(f.2.1.1, (f.2.2.map (·.1)).getD Str.empty)] else []
open Classical in
/-- the lines one after another: the links so far, or the index of the first line that is none or leads back -/
noncomputable def runFacts (tabs : Tabs) : Nat → Links → List Str → Except Nat Links
  | _, L, [] => .ok L
  | i, L, x :: r => match readWords tabs (Txt.split x " ") with
    | none => .error i
    | some f => if Back L f then .error i else runFacts tabs (i + 1) (L ++ linkOf f) r
theorem words_goal {tabs : Tabs} {ws : List Str} {f : Fact} (h : readWords tabs ws = some f) (hf : f.1 = ("found" : Str)) : f.2.2 ≠ none := by
  unfold readWords at h
  split at h
  · rename_i c
    obtain ⟨p, _, e⟩ := Option.map_eq_some_iff.mp h
    rw [← e] at hf
    have hf : wordAt ws 0 = ("found" : Str) := hf
    rw [hf] at c
    exact absurd c.2 (by decide +kernel)
  · split at h
    · rename_i c
      obtain ⟨p, _, e⟩ := Option.map_eq_some_iff.mp h
      rw [← e] at hf
      have hf : wordAt ws 0 = ("found" : Str) := hf
      rw [hf] at c
      exact absurd c.2 (by decide +kernel)
    · split at h
      · obtain ⟨g, _, e⟩ := Option.bind_eq_some_iff.mp h
        obtain ⟨p, _, e⟩ := Option.map_eq_some_iff.mp e
        rw [← e]
        intro z; cases z
      · cases h
/-- each line once, where it first stood -/
def once (acc : List Str) (x : Str) : List Str := if x ∈ acc then acc else acc ++ [x]
def onces (ls : List Str) : List Str := ls.foldl once []
theorem putK_keys {kvs : List (Key × V)} {x : Str} {v : V} {acc : List Str} (h : kvs.map (·.1) = acc.map Sum.inr) : (putK kvs (.inr x) v).map (·.1) = (once acc x).map Sum.inr := by
  have mem : (kvs.any fun kv => decide (kv.1 = Sum.inr x)) = decide (x ∈ acc) := by
    have e : (kvs.any fun kv => decide (kv.1 = Sum.inr x)) = (kvs.map (·.1)).any fun k => decide (k = Sum.inr x) := by rw [List.any_map]; rfl
    rw [e, h]
    by_cases hx : x ∈ acc
    · rw [decide_eq_true hx]
      exact List.any_eq_true.mpr ⟨.inr x, List.mem_map.mpr ⟨x, hx, rfl⟩, decide_eq_true rfl⟩
    · rw [decide_eq_false hx, List.any_eq_false]
      intro k hk e
      obtain ⟨y, hy, ey⟩ := List.mem_map.mp hk
      have e := of_decide_eq_true e
      rw [← ey] at e
      exact hx (by rw [← Sum.inr.inj e]; exact hy)
  unfold putK once
  rw [mem]
  by_cases hx : x ∈ acc
  · rw [if_pos (decide_eq_true hx), if_pos hx, ← h, List.map_map]
    apply List.map_congr_left
    intro kv _
    show (if kv.1 = Sum.inr x then (kv.1, v) else kv).1 = kv.1
    split <;> rfl
  · rw [if_neg (by rw [decide_eq_false hx]; exact Bool.false_ne_true), if_neg hx, List.map_append, List.map_append, h]; rfl
theorem putK_len {kvs : List (Key × V)} {k : Key} {v : V} : (putK kvs k v).length ≤ kvs.length + 1 := by
  unfold putK
  split
  · rw [List.length_map]; omega
  · rw [List.length_append, List.length_singleton]; omega
open Classical in
theorem runFacts_cons {tabs : Tabs} {i : Nat} {L : Links} {x : Str} {r : List Str} : runFacts tabs i L (x :: r) = (match readWords tabs (Txt.split x " ") with
    | none => .error i
    | some f => if Back L f then .error i else runFacts tabs (i + 1) (L ++ linkOf f) r) := by
  conv => lhs; unfold runFacts
theorem runFacts_drop {tabs : Tabs} {ls : List Str} {i : Nat} {L : Links} (h : i < ls.length) : runFacts tabs i L (ls.drop i) = runFacts tabs i L (ls[i] :: ls.drop (i + 1)) := by
  rw [List.drop_eq_getElem_cons h]
theorem PlV.keepT {H H' : Hp} {o : Option Place} {v : V} (h : PlV H o v) (k : ∀ q xs, H q = some (.tup xs) → H' q = some (.tup xs)) : PlV H' o v := by
  cases o with
  | none => exact h
  | some p => exact let ⟨q, e, e2⟩ := h; ⟨q, e, k _ _ e2⟩
/-- the facts by their lines, as the dict holds them -/
def FactsVals (H : Hp) (tabs : Tabs) (kvs : List (Key × V)) : Prop := ∀ kv ∈ kvs, ∃ (x : Str) (f : Fact) (q : Addr) (vp vg : V), kv = (.inr x, .ref q) ∧ readWords tabs (Txt.split x " ") = some f ∧ H q = some (.tup [.str f.1, vp, vg]) ∧ PlV H (some f.2.1) vp ∧ PlV H f.2.2 vg
theorem FactsVals.keepT {H H' : Hp} {tabs : Tabs} {kvs : List (Key × V)} (h : FactsVals H tabs kvs) (k : ∀ q xs, H q = some (.tup xs) → H' q = some (.tup xs)) : FactsVals H' tabs kvs := fun kv hkv =>
  let ⟨x, f, q, vp, vg, e, e2, e3, e4, e5⟩ := h kv hkv; ⟨x, f, q, vp, vg, e, e2, k _ _ e3, e4.keepT k, e5.keepT k⟩
theorem FactsVals.put {H : Hp} {tabs : Tabs} {kvs : List (Key × V)} (h : FactsVals H tabs kvs) {x : Str} {f : Fact} {q : Addr} {vp vg : V} (e2 : readWords tabs (Txt.split x " ") = some f) (e3 : H q = some (.tup [.str f.1, vp, vg])) (e4 : PlV H (some f.2.1) vp) (e5 : PlV H f.2.2 vg) :
    FactsVals H tabs (putK kvs (.inr x) (.ref q)) := by
  unfold putK
  split
  · intro kv hkv
    obtain ⟨kv0, h0, e⟩ := List.mem_map.mp hkv
    by_cases hk : kv0.1 = Sum.inr x
    · rw [if_pos hk, hk] at e
      exact ⟨x, f, q, vp, vg, e.symm, e2, e3, e4, e5⟩
    · rw [if_neg hk] at e
      rw [← e]; exact h kv0 h0
  · intro kv hkv
    rcases List.mem_append.mp hkv with hm | hm
    · exact h kv hm
    · exact ⟨x, f, q, vp, vg, List.mem_singleton.mp hm, e2, e3, e4, e5⟩
def sp_read_facts (P C CB : Addr) : Sp := fun vs H Q E => ∃ (a l : Addr) (ls : List Str) (tabs : Tabs), vs = [.ref a, .ref l] ∧ SchemaAt C H a tabs ∧ (SqL K H l (ls.map V.str) ∨ SqT K H l (ls.map V.str)) ∧ ls.length ≤ 200 ∧
  (∀ x ∈ ls, x.length ≤ 10000 ∧ ∀ y ∈ Txt.split x " ", y.length ≤ 10000) ∧ H P = some (TabX P) ∧
  (∀ L d o kvs H', runFacts tabs 0 [] ls = .ok L → H d = none → Same H H' → H' d = some (.frz o (.dK kvs)) → kvs.map (·.1) = (onces ls).map Sum.inr → FactsVals H' tabs kvs → Q (.ref d) H') ∧
  (∀ i H' (dx : Addr), runFacts tabs 0 [] ls = .error i → Same H H' → H' dx = some (.xd [("index", .int (i : Nat))]) → E (.ref CB) (some dx) H')
theorem ok_read_facts (T : TX K mg) (B : TB T base) : FnOk P w K mg base (L2.CX P w) 6 T.a_read_facts T.fd_read_facts p_read_facts (sp_read_facts (K := K) T.P_leads_back T.C_Schema T.x_BadFact.C) := by
  classical
  refine Fun.okX T.F_read_facts sc_read_facts (fun vs H Q E h => ?_) (fun cdv A outer s H vs Q E hr h => ?_)
  · obtain ⟨a, l, ls, tabs, rfl, _⟩ := h
    rfl
  · obtain ⟨a, l, ls, tabs, rfl, hS, hl, hn, hx, hP, kq, ke⟩ := h
    refine ⟨_, (pss_cons (ps_set (i := 2) sc_read_facts.nd rfl (Or.inl rfl) pe_dnewK)
  (pss_cons (ps_set (i := 3) sc_read_facts.nd rfl (Or.inl rfl) (pe_lstS pa_nil))
  (pss_cons (ps_for (passes_of rfl) rfl (Ent.pi_enumS (by rfl) T.z_enumerate (pa_cons (pv 1) pa_nil)) (pg_tup rfl (pgs_cons (pg_name (i := 4) sc_read_facts.nd rfl (Or.inl rfl)) (pgs_cons (pg_name (i := 5) sc_read_facts.nd rfl (Or.inl rfl)) pgs_nil))) (pss_cons (ps_set (i := 6) sc_read_facts.nd rfl (Or.inl rfl) (pe_call (ok_read_fact T B) (hr.mono (by decide)) rfl T.g_read_fact T.F_read_fact.kp T.b_read_fact .nil pass0 (pa_cons (pv 0) (pa_cons (pv 5) pa_nil))))
  (pss_join (ps_if (PW.pt (pw_or (pt_cmpR op_isN (pv 6) pe_non (nomark _)) (pw_or1 (pt_val (pe_call (ok_leads_back T B) (hr.mono (by decide)) rfl T.g_leads_back T.F_leads_back.kp T.b_leads_back .nil pass0 (pa_cons (pv 6) (pa_cons (pv 3) pa_nil))))))) (pss_one (ps_raise rfl (takes_of rfl rfl rfl rfl) (pmk_oex T.x_BadFact.oex T.i_BadFact_init T.t_BadFact_init (ok_BadFact_init T) (hr.mono (by decide)) T.b_BadFact_init .nil pass0 (by rfl) T.x_BadFact.g (pa_cons (pv 4) pa_nil)))) pss_nil)
  (pss_cons (ps_dput (hu_of hr) (pv 2) (pv 5) (pv 6) rfl)
  (pss_one (ps_expr (pe_bm PySem.F.plainAttrs_list PySem.F.slot_list_extend PySem.F.type_list_extend mt_extend (pv 3) (pa_cons (pe_call (ok_table_links T B) (hr.mono (by decide)) rfl T.g_table_links T.F_table_links.kp T.b_table_links .nil pass0 (pa_cons (pe_lstS (pa_cons (pv 6) pa_nil)) pa_nil)) pa_nil))))))))
  (pss_one (ps_ret (pe_frz (pv 2))))))), ?_⟩
    intro d hd
    refine ⟨(by show 0 ≤ sizeLine; decide), fun wl H1 hw s01 ew => ?_⟩
    have sd : Same H (upd H d (.dK [])) := Same.new (Same.refl H) hd
    have ed : (upd H d (.dK [])) d = some (.dK []) := upd_same
    generalize upd H d (.dK []) = H0 at sd ed hw s01
    have s1 := sd.trans s01
    have d1 := s01 _ _ ed
    have hwH : H wl = none := sd.free hw
    have ndw : d ≠ wl := fun z => by rw [← z, ed] at hw; cases hw
    have hml : (ls.map V.str).length = ls.length := List.length_map ..
    -- the error raised
    have raise : ∀ (i : Nat) (σ : St) (H4 : Hp), σ[4]? = some (some (V.int (i : Nat))) → Same H H4 → runFacts tabs 0 [] ls = .error i → tMkO T.x_BadFact.C (sp_ini1 T.x_BadFact.C "index") [] (tCons (tVar 4) tNil) σ H4 fun cls d H' => E cls d H' := fun i σ H4 e4 s4 er => by
      refine ⟨_, e4, (by show 1 ≤ 1000; decide), fun ea hea => ⟨ea, _, rfl, upd_same, fun dx n ne => ⟨rfl, dx, [("index", .int (i : Nat))], upd_same, by rw [upd_ne ne, upd_same], ?_, ?_⟩⟩⟩
      · rw [upd_ne ne] at n; exact n
      · have hdx : H4 dx = none := by rw [upd_ne ne] at n; exact n
        refine ke i _ dx er (fun b o e => ?_) upd_same
        have e9 := s4 _ _ e
        have nb1 : b ≠ dx := fun z => by rw [z, hdx] at e9; cases e9
        have nb2 : b ≠ ea := fun z => by rw [z, hea] at e9; cases e9
        rw [upd_ne nb1]
        unfold del
        rw [if_neg nb2, upd_ne nb2, upd_ne nb1, upd_ne nb2]
        exact e9
    refine for_enumS (a := l) (Hb := H) rfl hl (fun i σ H' => ∃ (kvs : List (Key × V)) (L : Links) (s4 s5 s6 : Option V), σ = [some (.ref a), some (.ref l), some (.ref d), some (.ref wl), s4, s5, s6] ∧ Same H H' ∧ H' d = some (.dK kvs) ∧ LinksAt H' wl L ∧
        kvs.map (·.1) = (onces (ls.take i)).map Sum.inr ∧ FactsVals H' tabs kvs ∧ kvs.length ≤ i ∧ L.length ≤ i ∧ runFacts tabs 0 [] ls = runFacts tabs i L (ls.drop i))
      ⟨[], [], none, none, none, rfl, s1, d1, ⟨[], ew, .nil⟩, rfl, (fun kv h => absurd h List.not_mem_nil), Nat.le_refl _, Nat.le_refl _, rfl⟩ (fun i σ' H' ⟨_, _, _, _, _, _, s, _⟩ => s) ?_ ?_
    · rintro i x σ H4 H5 hi ⟨kvs, L, s4, s5, s6, rfl, sH, dk, hL, hk, hFv, hkl, hLl, hrun⟩ ⟨T0, x0, y0, rfl, hT0, rfl, ex0, hy0⟩
      cases ex0
      rw [hml] at hi
      have hy0 : (ls.map V.str)[i]? = some y0 := hy0
      rw [List.getElem?_map, List.getElem?_eq_getElem hi] at hy0
      cases hy0
      have hmem : ls[i] ∈ ls := List.getElem_mem hi
      obtain ⟨z1, z2⟩ := hx _ hmem
      rw [runFacts_drop hi] at hrun
      refine ⟨T0, _, rfl, SqT.of upd_same, rfl, _, _, rfl, _, _, rfl, rfl, ?_⟩
      have sT : Same H4 (upd H4 T0 (.tup [.int ((i : Nat) : Int), V.str ls[i]])) := Same.new (Same.refl H4) hT0
      generalize upd H4 T0 (.tup [.int ((i : Nat) : Int), V.str ls[i]]) = H5 at sT
      refine ⟨_, rfl, _, rfl, a, ls[i], tabs, rfl, z1, z2, hS.same (sH.trans sT), fun v H6 s56 hv => ?_⟩
      have s46 := sT.trans s56
      have sH6 := sH.trans s46
      rw [runFacts_cons] at hrun
      cases hw : readWords tabs (Txt.split ls[i] " ") with
      | none =>
        rw [hw] at hrun hv
        obtain rfl : v = .non := hv
        refine ⟨fun _ _ => False, ⟨_, rfl, rfl, _, rfl, iteT (iteT (raise i _ _ rfl sH6 hrun))⟩, fun _ _ z => z.elim⟩
      | some f =>
        rw [hw] at hrun hv
        obtain ⟨q, pv, gv, rfl, hq, p1, p2⟩ := hv
        have hff := words_goal hw
        refine ⟨fun σ2 H7 => ¬ Back L f ∧ σ2 = [some (.ref a), some (.ref l), some (.ref d), some (.ref wl), some (.int (i : Nat)), some (.str ls[i]), some (.ref q)] ∧ Same H6 H7, ⟨_, rfl, rfl, _, rfl, iteF ⟨_, rfl, _, rfl, q, wl, f, pv, gv, L, rfl, hq, p1, p2, hff, hL.same s46, by omega, sH6 _ _ hP, fun b H7 s67 hb => ⟨_, rfl, ?_⟩⟩⟩, ?_⟩
        · cases b with
          | true => exact iteT (raise i _ _ rfl (sH6.trans s67) (by rw [hrun]; exact if_pos (hb.mp rfl)))
          | false => exact iteF ⟨fun z => (by cases hb.mpr z), rfl, s67⟩
        · rintro σ2 H7 ⟨nb, rfl, s67⟩
          have hrun : runFacts tabs 0 [] ls = runFacts tabs (i + 1) (L ++ linkOf f) (ls.drop (i + 1)) := hrun.trans (if_neg nb)
          have s47 := s46.trans s67
          refine ⟨_, rfl, _, rfl, _, rfl, d, _, rfl, DPut.k (k := .inr ls[i]) (s47 _ _ dk) (small1000 (by omega)), ?_⟩
          obtain ⟨qs, el, pq⟩ := hL
          have hql : qs.length = L.length := Paired.length pq
          have d7 := s47 _ _ dk
          have el7 := s47 _ _ el
          have sHd : Same H (upd H7 d (.dK (putK kvs (.inr ls[i]) (.ref q)))) := Same.own (sH.trans s47) hd
          have kd : ∀ b xs, H7 b = some (.tup xs) → (upd H7 d (.dK (putK kvs (.inr ls[i]) (.ref q)))) b = some (.tup xs) := fun b xs e => by
            rw [upd_ne (fun z => by rw [z, d7] at e; cases e)]; exact e
          have ewd : (upd H7 d (.dK (putK kvs (.inr ls[i]) (.ref q)))) wl = some (.lst (qs.map V.ref)) := by rw [upd_ne (Ne.symm ndw)]; exact el7
          have edd : (upd H7 d (.dK (putK kvs (.inr ls[i]) (.ref q)))) d = some (.dK (putK kvs (.inr ls[i]) (.ref q))) := upd_same
          have hqd := kd _ _ (s67 _ _ hq)
          have p1d := (p1.same s67).keepT kd
          have p2d := (p2.same s67).keepT kd
          generalize upd H7 d (.dK (putK kvs (.inr ls[i]) (.ref q))) = H8 at sHd kd ewd edd hqd p1d p2d
          refine ⟨_, rfl, .inl ⟨rfl, _, SqL.of ewd⟩, _, rfl, (by show 1 ≤ sizeLine; decide), fun c Hc hc sc ec => ?_⟩
          refine ⟨c, q, f, pv, gv, rfl, SqL.of ec, sc _ _ hqd, p1d.same sc, p2d.same sc, hff, fun r Hr hr1 sr er => ?_⟩
          obtain ⟨acc, ea, eo⟩ := er
          have s8r := sc.trans sr
          have ewr := s8r _ _ ewd
          have kr : ∀ b xs, Hr b = some (.tup xs) → (upd Hr wl (.lst (qs.map V.ref ++ acc))) b = some (.tup xs) := fun b xs e => by
            rw [upd_ne (fun z => by rw [z, ewr] at e; cases e)]; exact e
          have hacc : acc.length ≤ 1 := by
            unfold OneL at eo
            split at eo
            · obtain ⟨z, e, _⟩ := eo
              rw [e]; exact Nat.le_refl _
            · rw [eo]; exact Nat.zero_le _
          refine ⟨wl, r, _, acc, rfl, rfl, ewr, ea, Nat.le_of_lt (small1000 (by rw [List.length_map]; omega)), ?_⟩
          have pq2 : Paired (fun q (p : Str × Str) => (upd Hr wl (.lst (qs.map V.ref ++ acc))) q = some (.tup [.str p.1, .str p.2])) qs L := Paired.mapP pq fun _ _ e => kr _ _ (s8r _ _ (kd _ _ (s47 _ _ e)))
          have links : LinksAt (upd Hr wl (.lst (qs.map V.ref ++ acc))) wl (L ++ linkOf f) ∧ (L ++ linkOf f).length ≤ i + 1 := by
            unfold OneL at eo
            by_cases ff : f.1 = ("found" : Str)
            · rw [if_pos (decide_eq_true ff)] at eo
              obtain ⟨z, e, e2⟩ := eo
              subst e
              have el : linkOf f = [(f.2.1.1, (f.2.2.map (·.1)).getD Str.empty)] := if_pos ff
              rw [el]
              refine ⟨⟨qs ++ [z], ?_, paired_snoc pq2 (kr _ _ e2)⟩, by rw [List.length_append, List.length_singleton]; omega⟩
              rw [upd_same, List.map_append]; rfl
            · rw [if_neg (by rw [decide_eq_false ff]; exact Bool.false_ne_true)] at eo
              subst eo
              have el : L ++ linkOf f = L := by
                have el : linkOf f = [] := if_neg ff
                rw [el]; exact List.append_nil L
              rw [el]
              refine ⟨⟨qs, ?_, pq2⟩, by omega⟩
              rw [upd_same, List.append_nil]
          refine ⟨putK kvs (.inr ls[i]) (.ref q), L ++ linkOf f, _, _, _, rfl, Same.own (sHd.trans s8r) hwH, by rw [upd_ne ndw]; exact s8r _ _ edd, links.1, ?_, (hFv.keepT fun _ _ e => kr _ _ (s8r _ _ (kd _ _ (s47 _ _ e)))).put hw (kr _ _ (s8r _ _ hqd)) ((p1d.same s8r).keepT kr) ((p2d.same s8r).keepT kr), Nat.le_trans putK_len (by omega), links.2, hrun⟩
          rw [putK_keys hk, List.take_add_one, List.getElem?_eq_getElem hi]
          show _ = (onces (ls.take i ++ [ls[i]])).map Sum.inr
          unfold onces
          rw [List.foldl_append]; rfl
    · rintro σ H4 ⟨kvs, L, s4, s5, s6, rfl, sH, dk, hL, hk, hFv, hkl, hLl, hrun⟩
      rw [hml] at hk hkl hLl hrun
      rw [List.drop_length] at hrun
      rw [List.take_length] at hk
      have hdH : H d = none := hd
      refine ⟨_, rfl, d, _, rfl, dk, trivial, fun o => ?_⟩
      refine kq L d o kvs _ hrun hdH (fun b u e => ?_) upd_same hk (hFv.keepT fun b xs e => by rw [upd_ne (fun z => by rw [z, dk] at e; cases e)]; exact e)
      have nb : b ≠ d := fun z => by rw [z, hdH] at e; cases e
      rw [upd_ne nb]
      exact sH _ _ e
end
end L2.Pf
set_option maxHeartbeats 2000000
namespace L2.Pf
open PySem PySem.Spec PyProof.Rows L2.Ev L2.Tpd L2.Seti L2.Gq L2.Enf L2.Sett L2.Itr L2.Dls L2.Own L2.Ent
section
variable {P : Program} {w : World} {K : PySem.W.Frag} {mg : Str → Option Value} {base : Heap}
/-- facts of these lines stand at a -/
def FactsAt (C CS : Addr) (tabs : Tabs) (H : Hp) (a : Addr) (ls : List Str) : Prop := ∃ dx d sc o kvs, H a = some (.ins C dx [("_schema", .ref sc), ("_facts", .ref d)]) ∧ H d = some (.frz o (.dK kvs)) ∧ kvs.map (·.1) = (onces ls).map Sum.inr ∧ FactsVals H tabs kvs ∧ SchemaAt CS H sc tabs
theorem FactsAt.same {C CS : Addr} {tabs : Tabs} {H H' : Hp} {a : Addr} {ls : List Str} (h : FactsAt C CS tabs H a ls) (s : Same H H') : FactsAt C CS tabs H' a ls := by
  obtain ⟨dx, d, sc, o, kvs, h1, h2, h3, h4, h5⟩ := h
  exact ⟨dx, d, sc, o, kvs, s _ _ h1, s _ _ h2, h3, h4.keepT (fun _ _ e => s _ _ e), h5.same s⟩
def sp_Facts_init (P CS CB C : Addr) : Sp := fun vs H Q E => ∃ (f dx a l : Addr) (ls : List Str) (tabs : Tabs), vs = [.ref f, .ref a, .ref l] ∧ H f = some (.ins C dx []) ∧ SchemaAt CS H a tabs ∧ (SqL K H l (ls.map V.str) ∨ SqT K H l (ls.map V.str)) ∧ ls.length ≤ 200 ∧
  (∀ x ∈ ls, x.length ≤ 10000 ∧ ∀ y ∈ Txt.split x " ", y.length ≤ 10000) ∧ H P = some (TabX P) ∧
  (∀ L H', runFacts tabs 0 [] ls = .ok L → But f H H' → FactsAt C CS tabs H' f ls → Q .non H') ∧
  (∀ i H' (dx : Addr), runFacts tabs 0 [] ls = .error i → But f H H' → H' dx = some (.xd [("index", .int (i : Nat))]) → E (.ref CB) (some dx) H')
theorem ok_Facts_init (T : TX K mg) (B : TB T base) : FnOk P w K mg base (L2.CX P w) 7 T.a_Facts_init T.fd_Facts_init p_Facts_init (sp_Facts_init (K := K) T.P_leads_back T.C_Schema T.x_BadFact.C T.C_Facts) := by
  refine Fun.okX T.F_Facts_init sc_Facts_init (fun vs H Q E h => ?_) (fun cdv A outer s H vs Q E hr h => ?_)
  · obtain ⟨f, dx, a, l, ls, tabs, rfl, _⟩ := h
    rfl
  · obtain ⟨f, dx, a, l, ls, tabs, rfl, hf, hS, hl, hn, hx, hP, kq, ke⟩ := h
    refine ⟨_, (pss_cons (ps_fld (pv 0) (pv 1) rfl)
  (pss_one (ps_fld (pv 0) (pe_call (ok_read_facts T B) (hr.mono (by decide)) rfl T.g_read_facts T.F_read_facts.kp T.b_read_facts .nil (L2.passes_call (E := E) (takes_of rfl rfl rfl rfl) (fun _ _ _ _ z => z)) (pa_cons (pv 1) (pa_cons (pv 2) pa_nil))) rfl))), ?_⟩
    refine ⟨_, rfl, _, rfl, f, T.C_Facts, dx, [], rfl, hf, T.cl_Facts, T.n_Facts__schema, (by decide), ?_⟩
    have k1 : ∀ b o, H b = some o → (∀ C dx, o ≠ .ins C dx []) → (upd H f (.ins T.C_Facts dx (putF "_schema" (.ref a) []))) b = some o := fun b o e no => by
      rw [upd_ne (fun z => by rw [z, hf] at e; cases e; exact no _ _ rfl)]; exact e
    have hf1 : (upd H f (.ins T.C_Facts dx (putF "_schema" (.ref a) []))) f = some (.ins T.C_Facts dx [("_schema", .ref a)]) := upd_same
    have b1 : But f H (upd H f (.ins T.C_Facts dx (putF "_schema" (.ref a) []))) := fun b o hb e => by rw [upd_ne hb]; exact e
    generalize upd H f (.ins T.C_Facts dx (putF "_schema" (.ref a) [])) = H1 at k1 hf1 b1
    have hS1 : SchemaAt T.C_Schema H1 a tabs := by
      obtain ⟨dx2, d, o, kvs, t, h1, h2, h3, h4⟩ := hS
      exact ⟨dx2, d, o, kvs, t, k1 _ _ h1 (fun _ _ z => by cases z), k1 _ _ h2 (fun _ _ z => by cases z), h3.keep (fun q o xs e => k1 _ _ e fun _ _ z => by cases z), k1 _ _ h4 (fun _ _ z => by cases z)⟩
    have hl1 : SqL K H1 l (ls.map V.str) ∨ SqT K H1 l (ls.map V.str) := by
      rcases hl with h | h
      · rcases h with (h | ⟨o, h⟩) | h
        · exact .inl (.inl (.inl (k1 _ _ h fun _ _ z => by cases z)))
        · exact .inl (.inl (.inr ⟨o, k1 _ _ h fun _ _ z => by cases z⟩))
        · exact .inl (.inr h)
      · rcases h with (h | ⟨o, h⟩) | h
        · exact .inr (.inl (.inl (k1 _ _ h fun _ _ z => by cases z)))
        · exact .inr (.inl (.inr ⟨o, k1 _ _ h fun _ _ z => by cases z⟩))
        · exact .inr (.inr h)
    have hP1 : H1 T.P_leads_back = some (TabX T.P_leads_back) := k1 _ _ hP fun _ _ z => by cases z
    refine ⟨_, rfl, _, rfl, a, l, ls, tabs, rfl, hS1, hl1, hn, hx, hP1, fun L d o kvs H2 er hd s12 e2 hk hFv => ?_, fun i H2 dx2 er s12 e2 => ke i H2 dx2 er (fun b o hb e => s12 _ _ (b1 b o hb e)) e2⟩
    have nfd : f ≠ d := fun z => by rw [← z, hf1] at hd; cases hd
    refine ⟨_, rfl, f, T.C_Facts, dx, _, rfl, s12 _ _ hf1, T.cl_Facts, T.n_Facts__facts, (show 1 < 1000 by decide), ?_⟩
    refine kq L _ er (fun b u hb e => ?_) ⟨dx, d, a, o, kvs, upd_same, ?_, hk, ?_, ?_⟩
    · rw [upd_ne hb]
      exact s12 _ _ (b1 _ _ hb e)
    · rw [upd_ne (Ne.symm nfd)]
      exact e2
    · exact hFv.keepT fun b xs e => by rw [upd_ne (fun z => by rw [z, s12 _ _ hf1] at e; cases e)]; exact e
    · obtain ⟨dx3, d3, o3, kvs3, t3, h1, h2, h3, h4⟩ := hS1.same s12
      have hf2 := s12 _ _ hf1
      have na : a ≠ f := fun z => by
        rw [z, hf2] at h1
        have e := Option.some.inj h1
        injection e with _ _ e3
        have l := congrArg List.length e3
        simp at l
      exact ⟨dx3, d3, o3, kvs3, t3, by rw [upd_ne na]; exact h1, by rw [upd_ne (fun z => by rw [z, hf2] at h2; cases h2)]; exact h2, h3.keep (fun q o xs e => by rw [upd_ne (fun z => by rw [z, hf2] at e; cases e)]; exact e), by rw [upd_ne (fun z => by rw [z, hf2] at h4; cases h4)]; exact h4⟩
end
end L2.Pf
set_option maxHeartbeats 2000000
namespace L2.Pf
open PySem PySem.Spec PyProof.Rows L2.Ev L2.Tpd L2.Seti L2.Gq L2.Enf L2.Sett L2.Itr L2.Dls L2.Own L2.Ent
section
variable {P : Program} {w : World} {K : PySem.W.Frag} {mg : Str → Option Value} {base : Heap}
theorem cut_to (xs : List V) {z : Int} {k : Nat} (e : z = (k : Int)) (hk : k ≤ 1000000) : cutV xs none (some z) = xs.take k := by
  subst e
  unfold cutV
  rw [HT.sIx_none, HT.sIx_nat, List.drop_zero, Nat.sub_zero]
  by_cases h : k ≤ xs.length
  · rw [Nat.min_eq_left h]
  · rw [Nat.min_eq_right (by omega), List.take_of_length_le (Nat.le_refl _), List.take_of_length_le (by omega)]
def sp_begun_pen (K : PySem.W.Frag) : Sp := fun vs H Q _ => ∃ (a : Addr) (ns : List Int), vs = [.ref a] ∧ SqL K H a (ns.map V.int) ∧ ns.length ≤ 63 ∧
  ∀ p c H', H p = none → H c = none → Same H H' → Pen H' p c ns 0 → Q (.ref p) H'
theorem ok_begun_pen (T : TX K mg) (B : TB T base) : FnOk P w K mg base CX0 1 T.a_begun_pen T.fd_begun_pen p_begun_pen (sp_begun_pen K) := by
  refine T.F_begun_pen.ok sc_begun_pen (fun vs H Q E h => ?_) (fun cdv A outer s H vs Q E hr h => ?_)
  · obtain ⟨a, ns, rfl, _⟩ := h
    rfl
  · obtain ⟨a, ns, rfl, hS, hl, k⟩ := h
    refine ⟨_, (pss_one (ps_ret (pe_disp (pps_cons pe_str (pe_callTy call_list_of (by rfl) T.z_list (by decide +kernel) (pa_cons (pe_slice sl_list (pv 0) po_none (po_some pe_int)) pa_nil)) (pps_cons pe_str pe_int (pps_cons pe_str pe_int pps_nil))) (by rfl) (by rfl) (fun z => by cases z) (by decide)))), ?_⟩
    intro p hp
    have hS1 : SqL K (upd H p (.dK [])) a (ns.map V.int) := (Same.new (Same.refl H) hp).seq hS
    refine ⟨_, rfl, _, rfl, a, _, rfl, hS1, fun c hc => ?_⟩
    have e1 : cutV (ns.map V.int) none (some 63) = ns.map V.int := by
      rw [cut_to _ (z := 63) (k := 63) rfl (by decide), List.take_of_length_le (by rw [List.length_map]; exact hl)]
    rw [e1]
    refine ⟨c, _, rfl, .inl (SqL.of upd_same), fun d hd => ?_⟩
    have hcp : c ≠ p := fun z => by
      rw [z, upd_same] at hc
      cases hc
    have hc0 : H c = none := by
      rw [upd_ne hcp] at hc
      exact hc
    have hdp : d ≠ p := fun z => by
      rw [z, upd_ne (Ne.symm hcp), upd_same] at hd
      cases hd
    have hdc : d ≠ c := fun z => by
      rw [z, upd_same] at hd
      cases hd
    have hd0 : H d = none := by
      rw [upd_ne hdc, upd_ne hdp] at hd
      exact hd
    refine ⟨by rw [upd_ne (Ne.symm hdp), upd_ne (Ne.symm hcp), upd_same], penD d 0 0, rfl, (by show 3 ≤ 15; decide), ?_⟩
    refine k p d _ hp hd0 (Same.own (Same.own (Same.own (Same.own (Same.refl H) hp) hc0) hd0) hp) ⟨⟨0, 0, upd_same, by decide, by decide⟩, ?_, hl⟩
    rw [upd_ne hdp, upd_same]
def sp_draw : Sp := fun vs H Q _ => ∃ (p c : Addr) (ns : List Int) (n : Nat) (span : Int), vs = [.ref p, .int span] ∧ Pen H p c ns n ∧ n ≤ 2 ^ 60 ∧ 0 < span ∧ span.natAbs < 2 ^ 8000 ∧
  ∀ d H', 0 ≤ d → d < span → Pen H' p c ns (n + 1) → But p H H' → Q (.int d) H'
theorem mod_in {a b : Int} (h : 0 < b) : 0 ≤ a % b ∧ a % b < b := ⟨Int.emod_nonneg _ (by omega), Int.emod_lt_of_pos _ h⟩
theorem ok_draw (T : TX K mg) (B : TB T base) : FnOk P w K mg base CX0 1 T.a_draw T.fd_draw p_draw sp_draw := by
  refine T.F_draw.ok sc_draw (fun vs H Q E h => ?_) (fun cdv A outer s H vs Q E hr h => ?_)
  · obtain ⟨p, c, ns, n, span, rfl, _⟩ := h
    rfl
  · obtain ⟨p, c, ns, n, span, rfl, hp, hn, h0, h9, k⟩ := h
    refine ⟨_, (pss_cons (ps_if (pt_cmpR op_gt (pe_dget (hu_of hr) (pv 0) pe_str (fun _ _ => rfl)) pe_int (nomark _)) (pss_cons (ps_set (i := 2) sc_draw.nd rfl (Or.inl rfl) (pe_op op_mod (pe_callTy call_int1 (by rfl) T.z_int (by decide +kernel) (pa_cons (pe_dget (hu_of hr) (pv 0) pe_str (fun _ _ => rfl)) pa_nil)) (pv 1)))
  (pss_cons (ps_dput (hu_of hr) (pv 0) pe_str (pe_op op_fdivW (pe_dget (hu_of hr) (pv 0) pe_str (fun _ _ => rfl)) (pv 1)) rfl)
  (pss_one (ps_ret (pv 2))))) pss_nil)
  (pss_cons (ps_set (i := 3) sc_draw.nd rfl (Or.inl rfl) (pe_dget (hu_of hr) (pv 0) pe_str (fun _ _ => rfl)))
  (pss_cons (ps_dput (hu_of hr) (pv 0) pe_str (pe_op op_add (pv 3) pe_int) rfl)
  (pss_cons (ps_set (i := 4) sc_draw.nd rfl (Or.inl rfl) (pe_op op_add (pe_op op_mul pe_int (pv 3)) pe_int))
  (pss_join (ps_if (pt_cmpR (op_neNil hr.units0) (pe_dget (hu_of hr) (pv 0) pe_str (fun _ _ => rfl)) (pe_lst pa_nil) (nomark _)) (pss_one (ps_set (i := 4) sc_draw.nd rfl (Or.inl rfl) (pe_ix ix_list (pe_dget (hu_of hr) (pv 0) pe_str (fun _ _ => rfl)) (pe_op op_mod (pe_callTy call_int1 (by rfl) T.z_int (by decide +kernel) (pa_cons (pv 3) pa_nil)) (pe_callB call_len_seq (by rfl) T.z_len (by decide +kernel) (pa_cons (pe_dget (hu_of hr) (pv 0) pe_str (fun _ _ => rfl)) pa_nil))) (fun _ _ => rfl)))) pss_nil)
  (pss_join (ps_if (PW.pt (pw_and (pt_cmpR op_lt (pv 3) (pe_callB call_len_seq (by rfl) T.z_len (by decide +kernel) (pa_cons (pe_dget (hu_of hr) (pv 0) pe_str (fun _ _ => rfl)) pa_nil)) (nomark _)) (pw_and1 (pt_cmpR op_ge (pe_callB call_abs (by rfl) T.z_abs (by decide +kernel) (pa_cons (pv 4) pa_nil)) (pe_op op_pow pe_int pe_int) (nomark _))))) (pss_cons (ps_dput (hu_of hr) (pv 0) pe_str (pe_op op_fdivW (pe_op op_sub (pe_callB call_abs (by rfl) T.z_abs (by decide +kernel) (pa_cons (pv 4) pa_nil)) (pe_op op_pow pe_int pe_int)) (pv 1)) rfl)
  (pss_one (ps_ret (pe_op op_mod (pe_callTy call_int1 (by rfl) T.z_int (by decide +kernel) (pa_cons (pe_op op_sub (pe_callB call_abs (by rfl) T.z_abs (by decide +kernel) (pa_cons (pv 4) pa_nil)) (pe_op op_pow pe_int pe_int)) pa_nil)) (pv 1))))) pss_nil)
  (pss_cons (ps_set (i := 5) sc_draw.nd rfl (Or.inl rfl) (pe_op op_mul (pe_op op_mod (pe_callTy call_int1 (by rfl) T.z_int (by decide +kernel) (pa_cons (pv 4) pa_nil)) pe_int) pe_int))
  (pss_cons (ps_set (i := 5) sc_draw.nd rfl (Or.inl rfl) (pe_op op_mod (pe_callTy call_int1 (by rfl) T.z_int (by decide +kernel) (pa_cons (pe_op op_add (pe_op op_add (pv 5) (pe_op op_mul (pv 3) (pe_op op_add (pe_op op_mul (pv 3) pe_int) pe_int))) pe_int) pa_nil)) pe_int))
  (pss_cons (ps_set (i := 5) sc_draw.nd rfl (Or.inl rfl) (pe_op op_mod (pe_callTy call_int1 (by rfl) T.z_int (by decide +kernel) (pa_cons (pe_op op_mul (pv 5) (pe_op op_add (pv 5) pe_int)) pa_nil)) pe_int))
  (pss_cons (ps_set (i := 5) sc_draw.nd rfl (Or.inl rfl) (pe_op op_mod (pe_callTy call_int1 (by rfl) T.z_int (by decide +kernel) (pa_cons (pe_op op_add (pe_op op_add (pe_op op_mul (pv 5) (pv 5)) (pe_op op_mul pe_int (pv 5))) (pe_op op_mul pe_int (pv 3))) pa_nil)) pe_int))
  (pss_one (ps_ret (pe_op op_mod (pe_callTy call_int1 (by rfl) T.z_int (by decide +kernel) (pa_cons (pe_op op_fdiv (pe_op op_mod (pe_callTy call_int1 (by rfl) T.z_int (by decide +kernel) (pa_cons (pe_op op_mul (pv 5) (pe_op op_add (pv 5) pe_int)) pa_nil)) pe_int) pe_int) pa_nil)) (pv 1)))))))))))))), ?_⟩
    obtain ⟨⟨t, l, hd, ht0, htn⟩, hc, hlen⟩ := id hp
    have hdig : ∀ z : Int, 0 ≤ z % span ∧ z % span < span := fun z => mod_in h0
    have hdv : ∀ z : Int, CDivW z span := fun z => wide_div h0 h9 (by decide) (by decide)
    refine ⟨_, rfl, p, _, rfl, pen_left hd, _, _, rfl, rfl, _, rfl, ?_⟩
    refine ite2 (fun hl0 => ?_) (fun hl0 => ?_)
    · refine ⟨_, rfl, p, _, rfl, pen_left hd, .inl ⟨_, rfl, _, rfl, _, _, rfl, rfl, h0, ?_⟩⟩
      refine ⟨_, rfl, p, _, rfl, pen_left hd, _, rfl, _, _, rfl, rfl, hdv _, _, rfl, p, _, rfl, pen_put_left hd, ?_⟩
      refine ⟨_, rfl, ?_⟩
      exact k _ _ (hdig l).1 (hdig l).2 ((hp.dput ht0 htn).mono (Nat.le_succ n)) (But.self (But.refl p H))
    · refine ⟨_, rfl, p, _, rfl, pen_turn hd, ?_⟩
      refine ⟨_, rfl, _, _, rfl, rfl, _, rfl, p, _, rfl, pen_put_turn hd, ?_⟩
      have hp1 : Pen (upd H p (.dK (penD c (t + 1) l))) p c ns (n + 1) := by
        refine (hp.mono (Nat.le_succ n)).dput (by omega) (by push_cast; omega)
      have hd1 : (upd H p (.dK (penD c (t + 1) l))) p = some (.dK (penD c (t + 1) l)) := upd_same
      have hb1 : But p H (upd H p (.dK (penD c (t + 1) l))) := But.self (But.refl p H)
      generalize upd H p (.dK (penD c (t + 1) l)) = H1 at hp1 hd1 hb1
      have hc1 := hp1.cells
      refine ⟨_, rfl, _, _, rfl, rfl, .inl ⟨by decide, by decide⟩, _, _, rfl, rfl, ?_⟩
      -- the cell
      refine ⟨fun σ H2 => ∃ z : Int, σ = [some (.ref p), some (.int span), none, some (.int t), some (.int z), none] ∧ Pen H2 p c ns (n + 1) ∧ But p H H2 ∧ H2 p = some (.dK (penD c (t + 1) l)), ?_, ?_⟩
      · refine ⟨_, rfl, p, _, rfl, pen_cells hd1, Nat.zero_le _, fun q hq => ?_⟩
        refine ⟨c, q, _, rfl, rfl, SqL.of (by rw [upd_ne (ne_of_none hc1 hq)]; exact hc1), SqL.of upd_same, _, rfl, ?_⟩
        have hp2 := hp1.new (o := .lst []) hq
        have hd2 : (upd H1 q (.lst [])) p = some (.dK (penD c (t + 1) l)) := by rw [upd_ne (ne_of_none hd1 hq)]; exact hd1
        have hb2 : But p H (upd H1 q (.lst [])) := But.new hb1 hq
        generalize upd H1 q (.lst []) = H2 at hp2 hd2 hb2
        have hc2 := hp2.cells
        cases ns with
        | nil => exact iteF ⟨_, rfl, hp2, hb2, hd2⟩
        | cons x xs =>
          refine iteT ?_
          have hL : (0 : Int) < ((((x :: xs).map V.int).length : Nat) : Int) := by simp
          obtain ⟨m0, m1⟩ := mod_in (a := t) hL
          obtain ⟨j, hj⟩ := Int.eq_ofNat_of_zero_le m0
          have hj2 : j < (x :: xs).length := by
            rw [hj, List.length_map] at m1
            exact Int.ofNat_lt.mp m1
          refine ⟨_, rfl, p, _, rfl, pen_cells hd2, _, rfl, .inl ⟨_, rfl, _, rfl, p, _, rfl, pen_cells hd2, c, _, rfl, .inl (SqL.of hc2), _, _, rfl, rfl, hL, ?_⟩⟩
          refine ⟨c, _, _, .int ((x :: xs)[j]'hj2), rfl, rfl, SqL.of hc2, at_of hj (by rw [List.getElem?_map, List.getElem?_eq_getElem hj2]; rfl), ?_⟩
          exact ⟨_, rfl, hp2, hb2, hd2⟩
      · rintro σ H2 ⟨z, rfl, hp2, hb2, hd2⟩
        have hc2 := hp2.cells
        have fin : ∀ u : Int, Q (.int (u % span)) H2 := fun u => k _ _ (hdig u).1 (hdig u).2 hp2 hb2
        refine ⟨fun σ H3 => σ = [some (.ref p), some (.int span), none, some (.int t), some (.int z), none] ∧ H3 = H2, ?_, ?_⟩
        · refine ⟨_, rfl, _, rfl, p, _, rfl, pen_cells hd2, c, _, rfl, .inl (SqL.of hc2), _, _, rfl, rfl, _, rfl, ?_⟩
          refine ite2 (fun _ => ?_) (fun _ => iteF ⟨rfl, rfl⟩)
          refine ⟨_, rfl, _, rfl, _, _, rfl, rfl, ⟨by decide, by decide, by decide⟩, _, _, rfl, rfl, _, rfl, ?_⟩
          refine ite2 (fun _ => ?_) (fun _ => ⟨rfl, rfl⟩)
          refine ⟨_, rfl, _, rfl, _, _, rfl, rfl, ⟨by decide, by decide, by decide⟩, _, _, rfl, rfl, _, rfl, _, _, rfl, rfl, hdv _, _, rfl, p, _, rfl, pen_put_left hd2, ?_⟩
          refine ⟨_, rfl, _, rfl, _, _, rfl, rfl, ⟨by decide, by decide, by decide⟩, _, _, rfl, rfl, .inl ⟨_, rfl, _, rfl, _, _, rfl, rfl, h0, ?_⟩⟩
          exact k _ _ (hdig _).1 (hdig _).2 (hp2.dput (by omega) (by push_cast; omega)) (But.self hb2)
        · rintro σ H3 ⟨rfl, rfl⟩
          refine ⟨_, rfl, .inl ⟨_, rfl, _, _, rfl, rfl, (by show (0 : Int) < _; decide), _, _, rfl, rfl, .inr ⟨by decide, by decide⟩, ?_⟩⟩
          obtain ⟨a0, a1⟩ := mod_in (a := z) (b := 4294967087) (by decide)
          generalize z % 4294967087 * 48611 = y1
          refine ⟨_, rfl, _, rfl, _, rfl, _, _, rfl, rfl, .inr ⟨by decide, by decide⟩, _, _, rfl, rfl, _, _, rfl, rfl, .inl ⟨by omega, by omega⟩, _, _, rfl, rfl, _, _, rfl, rfl, .inl ⟨_, rfl, _, _, rfl, rfl, (by show (0 : Int) < _; decide), ?_⟩⟩
          obtain ⟨b0, b1⟩ := mod_in (a := y1 + t * (t * 27919 + 10601) + 41) (b := 4294967029) (by decide)
          generalize (y1 + t * (t * 27919 + 10601) + 41) % 4294967029 = y2 at b0 b1
          refine ⟨_, rfl, _, rfl, _, _, rfl, rfl, _, _, rfl, rfl, .inl ⟨by omega, by omega⟩, .inl ⟨_, rfl, _, _, rfl, rfl, (by show (0 : Int) < _; decide), ?_⟩⟩
          obtain ⟨c0, c1⟩ := mod_in (a := y2 * (y2 + 75013)) (b := 4294966997) (by decide)
          generalize y2 * (y2 + 75013) % 4294966997 = y3 at c0 c1
          refine ⟨_, rfl, _, rfl, _, _, rfl, rfl, .inl ⟨by omega, by omega⟩, _, rfl, _, _, rfl, rfl, .inl ⟨by decide, by decide⟩, _, _, rfl, rfl, _, rfl, _, _, rfl, rfl, .inl ⟨by decide, by decide⟩, _, _, rfl, rfl, .inl ⟨_, rfl, _, _, rfl, rfl, (by show (0 : Int) < _; decide), ?_⟩⟩
          obtain ⟨e0, e1⟩ := mod_in (a := y3 * y3 + 30427 * y3 + 19 * t) (b := 4294966981) (by decide)
          generalize (y3 * y3 + 30427 * y3 + 19 * t) % 4294966981 = y4 at e0 e1
          refine ⟨_, rfl, _, rfl, _, _, rfl, rfl, _, _, rfl, rfl, .inl ⟨by omega, by omega⟩, .inl ⟨_, rfl, _, _, rfl, rfl, (by show (0 : Int) < _; decide), _, _, rfl, rfl, ⟨by decide, by decide⟩, .inl ⟨_, rfl, _, rfl, _, _, rfl, rfl, h0, ?_⟩⟩⟩
          exact fin _
end
end L2.Pf
set_option maxHeartbeats 2000000
namespace L2.Pf
open PySem PySem.Spec PyProof.Rows L2.Ev L2.Tpd L2.Seti L2.Gq L2.Enf L2.Sett L2.Itr L2.Dls L2.Own L2.Ent
section
variable {P : Program} {w : World} {K : PySem.W.Frag} {mg : Str → Option Value} {base : Heap}
theorem seq_nat {d : Int} {n : Nat} (h0 : 0 ≤ d) (h1 : d < (n : Int)) : seqIndex? d n = some d.toNat := by
  have e : ixN n d = some d.toNat := by
    unfold ixN
    rw [if_pos h0, if_pos h1]
  exact (ixN_seq e).1
theorem era_perm {α : Type} : ∀ (l : List α) (i : Nat) (h : i < l.length), (l[i] :: l.eraseIdx i).Perm l
  | [], _, h => absurd h (by simp)
  | _ :: _, 0, _ => List.Perm.refl _
  | a :: l, i + 1, h => by
    have z : i < l.length := by simpa using h
    exact (List.Perm.swap a _ _).trans (List.Perm.cons a (era_perm l i z))
def sp_shuffled (K : PySem.W.Frag) : Sp := fun vs H Q _ => ∃ (p c : Addr) (ns : List Int) (n : Nat) (a : Addr) (xs : List V), vs = [.ref p, .ref a] ∧ Pen H p c ns n ∧ (SqL K H a xs ∨ SqT K H a xs) ∧ xs.length ≤ 1000 ∧ n ≤ 2 ^ 50 ∧
  ∀ ys r H', ys.Perm xs → H r = none → H' r = some (.lst ys) → Pen H' p c ns (n + xs.length) → But p H H' → Q (.ref r) H'
theorem ok_shuffled (T : TX K mg) (B : TB T base) : FnOk P w K mg base CX0 2 T.a_shuffled T.fd_shuffled p_shuffled (sp_shuffled K) := by
  refine T.F_shuffled.ok sc_shuffled (fun vs H Q E h => ?_) (fun cdv A outer s H vs Q E hr h => ?_)
  · obtain ⟨p, c, ns, n, a, xs, rfl, _⟩ := h
    rfl
  · obtain ⟨p, c, ns, n, a, xs, rfl, hp, hS, hl, hn, k⟩ := h
    refine ⟨_, (pss_cons (ps_par (i := 2) (j := 3) (by rfl) sc_shuffled.nd rfl rfl (by decide) rfl rfl (pa_cons (pe_callTy call_list_of (by rfl) T.z_list (by decide +kernel) (pa_cons (pv 1) pa_nil)) (pa_cons (pe_lst pa_nil) pa_nil)) (by rfl))
  (pss_cons (ps_while PassesOwn.never (pt_cmpR (op_neNil hr.units0) (pv 2) (pe_lst pa_nil) (nomark _)) (pss_one (ps_expr (pe_bm PySem.F.plainAttrs_list PySem.F.slot_list_append PySem.F.type_list_append mt_append (pv 3) (pa_cons (pe_bm PySem.F.plainAttrs_list PySem.F.slot_list_pop PySem.F.type_list_pop mt_popAt (pv 2) (pa_cons (pe_call (ok_draw T B) (hr.mono (by decide)) rfl T.g_draw T.F_draw.kp T.b_draw .nil pass0 (pa_cons (pv 0) (pa_cons (pe_callB call_len_seq (by rfl) T.z_len (by decide +kernel) (pa_cons (pv 2) pa_nil)) pa_nil))) pa_nil)) pa_nil)))))
  (pss_one (ps_ret (pv 3))))), ?_⟩
    refine ⟨_, rfl, a, _, rfl, hS, fun r1 hr1 => ⟨Nat.zero_le _, fun r2 hr2 => ⟨_, _, rfl, ?_⟩⟩⟩
    have n12 : r2 ≠ r1 := fun z => by
      rw [z, upd_same] at hr2
      cases hr2
    have h02 : H r2 = none := by
      rw [upd_ne n12] at hr2
      exact hr2
    have pne : ∀ {q : Addr}, H q = none → q ≠ p := fun hq => Ne.symm (ne_of_none hp.there.choose_spec hq)
    have cne : ∀ {q : Addr}, H q = none → q ≠ c := fun hq => Ne.symm (ne_of_none hp.cells hq)
    refine ⟨fun m σ H1 => ∃ (rs fs : List V) (j : Nat), m = rs.length ∧ σ = [some (.ref p), some (.ref a), some (.ref r1), some (.ref r2)] ∧ H1 r1 = some (.lst rs) ∧ H1 r2 = some (.lst fs) ∧ (fs ++ rs).Perm xs ∧ j = n + fs.length ∧ Pen H1 p c ns j ∧ But p H H1, ?_, ?_⟩
    · refine ⟨_, xs, [], n, rfl, rfl, by rw [upd_ne (Ne.symm n12), upd_same], upd_same, List.Perm.refl _, rfl, (hp.new hr1).new hr2, But.own (But.own (But.refl p H) hr1) h02⟩
    · rintro m σ H1 ⟨rs, fs, j, rfl, rfl, e1, e2, hperm, ej, hpn, hb⟩
      refine ⟨_, rfl, Nat.zero_le _, fun q hq => ?_⟩
      have hlen : fs.length + rs.length = xs.length := by
        have z := hperm.length_eq
        rw [List.length_append] at z
        exact z
      have e1' : (upd H1 q (.lst [])) r1 = some (.lst rs) := by rw [upd_ne (ne_of_none e1 hq)]; exact e1
      have e2' : (upd H1 q (.lst [])) r2 = some (.lst fs) := by rw [upd_ne (ne_of_none e2 hq)]; exact e2
      refine ⟨r1, q, _, rfl, rfl, SqL.of e1', SqL.of upd_same, _, rfl, ?_⟩
      have hpn' : Pen (upd H1 q (.lst [])) p c ns j := hpn.new hq
      have hb' : But p H (upd H1 q (.lst [])) := But.new hb hq
      generalize upd H1 q (.lst []) = H2 at e1' e2' hpn' hb'
      cases rs with
      | nil =>
        rw [List.append_nil] at hperm
        refine iteF ⟨_, rfl, ?_⟩
        refine k fs r2 H2 hperm h02 e2' (hpn'.mono (by simp at hlen; omega)) hb'
      | cons y0 rt =>
        refine iteT ⟨_, fun σ' H' z => z, ?_⟩
        refine ⟨_, rfl, .inl ⟨rfl, _, SqL.of e2'⟩, _, rfl, .inl ⟨rfl, _, SqL.of e1'⟩, _, rfl, _, rfl, r1, _, rfl, .inl (SqL.of e1'), ?_⟩
        have hL : (0 : Int) < (((y0 :: rt).length : Nat) : Int) := by simp
        have hlr : (y0 :: rt).length ≤ 1000 := by omega
        refine ⟨p, c, ns, j, _, rfl, hpn', by omega, hL, ?_, fun d H3 d0 d1 hp3 hb3 => ?_⟩
        · exact Nat.lt_of_le_of_lt (by rw [Int.natAbs_natCast]; exact hlr) (show 1000 < 2 ^ 8000 from Nat.lt_of_lt_of_le (by decide : 1000 < 2 ^ 10) (Nat.pow_le_pow_right (by decide) (by decide)))
        have pr1 : r1 ≠ p := pne hr1
        have pr2 : r2 ≠ p := pne h02
        have e13 := hb3 _ _ pr1 e1'
        have e23 := hb3 _ _ pr2 e2'
        have hdl : d.toNat < (y0 :: rt).length := by omega
        refine ⟨r1, _, d, d.toNat, (y0 :: rt)[d.toNat]'hdl, rfl, rfl, e13, by omega, by omega, seq_nat d0 d1, List.getElem?_eq_getElem hdl, ?_⟩
        refine ⟨r2, fs, _, rfl, rfl, by rw [upd_ne n12]; exact e23, small1000 (by omega), ?_⟩
        refine ⟨_, by rw [List.length_eraseIdx_of_lt hdl]; exact Nat.sub_lt (by simp) (by decide), (y0 :: rt).eraseIdx d.toNat, fs ++ [(y0 :: rt)[d.toNat]'hdl], j + 1, rfl, rfl, by rw [upd_ne (Ne.symm n12), upd_same], upd_same, ?_, ?_, ?_, ?_⟩
        · refine List.Perm.trans ?_ hperm
          rw [List.append_assoc]
          exact List.Perm.append_left fs (era_perm _ _ hdl)
        · rw [List.length_append, List.length_singleton, ej]
          omega
        · exact (hp3.upd pr1 (cne hr1)).upd pr2 (cne h02)
        · exact But.own (But.own (hb'.trans hb3) hr1) h02
/-! ### names -/
def NAMES : List Str := ["p", "q", "a", "b", "x", "y", "k", "key", "tables", "ends", "lasts", "somes", "isnot", "hashes", "own", "abcdefghijkl"]
def strV : V → Str
  | .str s => s
  | _ => ""
theorem perm_strs {ys : List V} {zs : List Str} (h : ys.Perm (zs.map V.str)) : ∃ us : List Str, ys = us.map V.str ∧ us.Perm zs := by
  refine ⟨ys.map strV, ?_, ?_⟩
  · rw [List.map_map]
    have e : ∀ y ∈ ys, (V.str ∘ strV) y = y := fun y hy => by
      obtain ⟨s, _, rfl⟩ := List.mem_map.mp (h.mem_iff.mp hy)
      rfl
    rw [List.map_congr_left e, List.map_id']
  · have z := h.map strV
    rw [List.map_map] at z
    have e : (strV ∘ V.str) = id := by
      funext s
      rfl
    rw [e, List.map_id] at z
    exact z
def sp_new_names : Sp := fun vs H Q _ => ∃ (p c : Addr) (ns : List Int) (n m : Nat), vs = [.ref p, .int (m : Int)] ∧ Pen H p c ns n ∧ m ≤ 16 ∧ n ≤ 2 ^ 49 ∧
  ∀ (us : List Str) r H', us.length = m → us.Nodup → (∀ u ∈ us, u ∈ NAMES) → H r = none → H' r = some (.lst (us.map V.str)) → Pen H' p c ns (n + 16) → But p H H' → Q (.ref r) H'
theorem ok_new_names (T : TX K mg) (B : TB T base) : FnOk P w K mg base CX0 3 T.a_new_names T.fd_new_names p_new_names sp_new_names := by
  refine T.F_new_names.ok sc_new_names (fun vs H Q E h => ?_) (fun cdv A outer s H vs Q E hr h => ?_)
  · obtain ⟨p, c, ns, n, m, rfl, _⟩ := h
    rfl
  · obtain ⟨p, c, ns, n, m, rfl, hp, hm, hn, k⟩ := h
    refine ⟨_, (pss_cons (ps_set (i := 2) sc_new_names.nd rfl (Or.inl rfl) (pe_lst (pa_cons pe_str (pa_cons pe_str (pa_cons pe_str (pa_cons pe_str (pa_cons pe_str (pa_cons pe_str (pa_cons pe_str (pa_cons pe_str (pa_cons pe_str (pa_cons pe_str (pa_cons pe_str (pa_cons pe_str (pa_cons pe_str (pa_cons pe_str (pa_cons pe_str pa_nil)))))))))))))))))
  (pss_one (ps_ret (pe_slice sl_list (pe_call (ok_shuffled T B) (hr.mono (by decide)) rfl T.g_shuffled T.F_shuffled.kp T.b_shuffled .nil pass0 (pa_cons (pv 0) (pa_cons (pe_op op_cat (pv 2) (pe_lst (pa_cons pe_str pa_nil))) pa_nil))) po_none (po_some (pv 1)))))), ?_⟩
    refine ⟨by show 15 ≤ sizeLine; decide, fun a ha => ?_⟩
    refine ⟨_, rfl, _, rfl, by show 1 ≤ sizeLine; decide, fun b hb => ?_⟩
    have nab : a ≠ b := fun z => by
      rw [← z, upd_same] at hb
      cases hb
    have hb0 : H b = none := by
      rw [upd_ne (Ne.symm nab)] at hb
      exact hb
    refine ⟨a, b, _, _, rfl, rfl, by rw [upd_ne nab, upd_same], upd_same, by show 16 ≤ sizeLine; decide, fun d hd => ?_⟩
    have hd0 : H d = none := by
      have h1 : d ≠ b := fun z => by
        rw [z, upd_same] at hd
        cases hd
      rw [upd_ne h1] at hd
      have h2 : d ≠ a := fun z => by
        rw [z, upd_same] at hd
        cases hd
      rw [upd_ne h2] at hd
      exact hd
    have hbut := But.own (o := .lst (NAMES.map V.str)) (But.own (o := .lst [.str "abcdefghijkl"]) (But.own (o := .lst ((NAMES.take 15).map V.str)) (But.refl p H) ha) hb0) hd0
    refine ⟨p, c, ns, n, d, NAMES.map V.str, rfl, ((hp.new ha).new hb).new hd, .inl (SqL.of upd_same), by show 16 ≤ 1000; decide, by omega, fun ys r H' hys hr' er hp' hb' => ?_⟩
    obtain ⟨us, rfl, hus⟩ := perm_strs hys
    refine ⟨_, rfl, _, rfl, r, _, rfl, SqL.of er, fun q hq => ?_⟩
    rw [cut_to _ rfl (by omega), ← List.map_take]
    have hlen : us.length = 16 := hus.length_eq
    have hq0 : H q = none := by
      refine But.free (hbut.trans hb') hp'.d.choose_spec.choose_spec.1 hq
    refine k (us.take m) q _ (by rw [List.length_take, hlen]; omega) ?_ (fun u hu => hus.mem_iff.mp (List.mem_of_mem_take hu)) hq0 upd_same ((hp'.mono (by show n + 16 ≤ n + 16; omega)).new hq) (But.own (hbut.trans hb') hq0)
    have nd : us.Nodup := hus.nodup_iff.mpr (by decide +kernel)
    exact nd.sublist (List.take_sublist m us)
end
end L2.Pf
set_option maxHeartbeats 2000000
namespace L2.Pf
open PySem PySem.Spec PyProof.Rows L2.Ev L2.Tpd L2.Seti L2.Gq L2.Enf L2.Sett L2.Itr L2.Dls L2.Own L2.Ent
section
variable {P : Program} {w : World} {K : PySem.W.Frag} {mg : Str → Option Value} {base : Heap}
/-- the law's tables: the i-th is a pair at qs[i] of a name and the list at cs[i] of the columns' names -/
def TabsAt (H : Hp) (qs : List Addr) (tabs : Tabs) : Prop := Paired (fun q (t : Str × List Str) => ∃ c, H q = some (.tup [.str t.1, .ref c]) ∧ H c = some (.lst (t.2.map V.str))) qs tabs
structure DrawnTabs (many : Nat) (tabs : Tabs) : Prop where
  ne : tabs ≠ []
  few : tabs.length ≤ many
  names : ∀ t ∈ tabs, t.1 ∈ NAMES
  nd : (tabs.map (·.1)).Nodup
  cols : ∀ t ∈ tabs, t.2 ≠ [] ∧ t.2.length ≤ 3 ∧ t.2.Nodup ∧ ∀ y ∈ t.2, y ∈ NAMES
theorem ok_small {n : Int} (h : n.natAbs < 2 ^ 64) : n.natAbs < 2 ^ 8000 := Nat.lt_of_lt_of_le h (Nat.pow_le_pow_right (by decide) (by decide))
def sp_drawn_tables : Sp := fun vs H Q _ => ∃ (p c : Addr) (ns : List Int) (n m : Nat), vs = [.ref p, .int (m : Int)] ∧ Pen H p c ns n ∧ 1 ≤ m ∧ m ≤ 16 ∧ n ≤ 2 ^ 48 ∧
  ∀ (tabs : Tabs) (qs : List Addr) r H', DrawnTabs m tabs → H r = none → H' r = some (.lst (qs.map V.ref)) → TabsAt H' qs tabs → (∀ q ∈ qs, H q = none) → Pen H' p c ns (n + 1000) → But p H H' → Q (.ref r) H'
theorem ok_drawn_tables (T : TX K mg) (B : TB T base) : FnOk P w K mg base CX0 4 T.a_drawn_tables T.fd_drawn_tables p_drawn_tables sp_drawn_tables := by
  refine T.F_drawn_tables.ok sc_drawn_tables (fun vs H Q E h => ?_) (fun cdv A outer s H vs Q E hr h => ?_)
  · obtain ⟨p, c, ns, n, m, rfl, _⟩ := h
    rfl
  · obtain ⟨p, c, ns, n, m, rfl, hp, hm1, hm, hn, k⟩ := h
    refine ⟨_, (pss_cons (ps_set (i := 2) sc_drawn_tables.nd rfl (Or.inr rfl) (pe_call (ok_new_names T B) (hr.mono (by decide)) rfl T.g_new_names T.F_new_names.kp T.b_new_names .nil pass0 (pa_cons (pv 0) (pa_cons pe_int pa_nil))))
  (pss_one (ps_ret (pe_lc (own := [("_law_k", 3)]) (g := gName 3) (tt := tYes) rfl sc_drawn_tables.nd (pi_range1 (by rfl) T.z_range (pa_cons (pe_op op_add pe_int (pe_call (ok_draw T B) (hr.mono (by decide)) rfl T.g_draw T.F_draw.kp T.b_draw .nil pass0 (pa_cons (pv 0) (pa_cons (pv 1) pa_nil)))) pa_nil)) (blkOk_by (own := [("_law_k", 3)]) (N := n_drawn_tables) (sc := defScope s_drawn_tables) (by decide +kernel)) (fun _ _ _ _ _ => (pg_name (i := 3) sc_drawn_tables.nd rfl (Or.inl rfl))) (fun _ _ _ _ _ => pts_nil) (fun _ _ _ _ _ => (pe_tupS (pa_cons (pe_ix (ix_listK (K := K)) (pv 2) (pv 3) (fun _ _ => rfl)) (pa_cons (pe_call (ok_new_names T B) (hr.mono (by decide)) rfl T.g_new_names T.F_new_names.kp T.b_new_names .nil pass0 (pa_cons (pv 0) (pa_cons (pe_op op_add pe_int (pe_call (ok_draw T B) (hr.mono (by decide)) rfl T.g_draw T.F_draw.kp T.b_draw .nil pass0 (pa_cons (pv 0) (pa_cons pe_int pa_nil)))) pa_nil))) pa_nil)))))))), ?_⟩
    refine ⟨_, rfl, p, c, ns, n, 16, rfl, hp, by decide, by omega, fun us r H1 hlen hnd hmem hr1 e1 hp1 b1 => ?_⟩
    refine ⟨_, rfl, _, rfl, p, c, ns, n + 16, (m : Int), rfl, hp1, by omega, by omega, ok_small (by omega), fun d H2 hd0 hd1 hp2 b2 => ?_⟩
    refine ⟨1, d, rfl, rfl, 1 + d, rfl, by omega, by omega, fun lr hlr => ?_⟩
    generalize hN : (1 + d).toNat = N
    have hN1 : 1 ≤ N ∧ N ≤ m := by omega
    have pD : ∀ {H : Hp} {k : Nat}, Pen H p c ns k → ∃ o, H p = some (.dK o) := fun q => let ⟨t, l, e, _⟩ := q.d; ⟨_, e⟩
    have nlp : lr ≠ p := fun z => by
      obtain ⟨o, e⟩ := pD hp2
      rw [z, e] at hlr; cases hlr
    have nlc : lr ≠ c := fun z => by
      have e := hp2.cells
      rw [← z, hlr] at e; cases e
    have b02 := b1.trans b2
    have nlst : ∀ {b : Addr} {xs : List V} {H : Hp} {k : Nat}, Pen H p c ns k → H b = some (.lst xs) → b ≠ p := fun q e2 z => by
      obtain ⟨o, e⟩ := pD q
      rw [z, e] at e2; cases e2
    have e2 : H2 r = some (.lst (us.map V.str)) := b2 _ _ (nlst hp1 e1) e1
    have hlrH : H lr = none := by
      obtain ⟨o, e⟩ := pD hp2
      exact But.free b02 e hlr
    refine lc_growB (n := N) (p := p) hlr nlp (fun i acc Hc => Pen Hc p c ns (n + 17 + 20 * i) ∧ ∃ (tabs : Tabs) (qs : List Addr), acc = qs.map V.ref ∧ tabs.length = i ∧
      Paired (fun q (t : Str × List Str) => ∃ c, Hc q = some (.tup [.str t.1, .ref c]) ∧ Hc c = some (.lst (t.2.map V.str)) ∧ c ≠ lr) qs tabs ∧ (∀ q ∈ qs, H q = none) ∧ tabs.map (·.1) = us.take i ∧ ∀ t ∈ tabs, t.2 ≠ [] ∧ t.2.length ≤ 3 ∧ t.2.Nodup ∧ ∀ y ∈ t.2, y ∈ NAMES) ?_ ?_ ?_ ?_ (small1000 (by omega)) ?_ ?_
    · rintro i acc Hc o ⟨q1, tabs, qs, q2, q3, q4, q5, q6, q7⟩ ⟨u, hu⟩
      refine ⟨q1.upd nlp nlc, tabs, qs, q2, q3, Paired.mapP q4 fun q t ⟨c2, z1, z2, z3⟩ => ⟨c2, ?_, ?_, z3⟩, q5, q6, q7⟩
      · rw [upd_ne (fun z => by rw [z, hu] at z1; cases z1)]; exact z1
      · rw [upd_ne z3]; exact z2
    · intro Hc s
      exact ⟨hp2.same s, [], [], rfl, rfl, .nil, fun q hq => (by cases hq), rfl, fun t ht => (by cases ht)⟩
    · intro i Hc hi _
      exact hi
    · intro Hc _
      exact Nat.le_refl N
    · rintro i acc Hc F G hF hG hi hb hacc ⟨q1, tabs, qs, rfl, q3, q4, q5, q6, q7⟩ x Hc' ⟨rfl, rfl⟩
      have hr2 : Hc' r = some (.lst (us.map V.str)) := hb _ _ (nlst hp2 e2) e2
      have hiu : i < us.length := by omega
      refine ⟨rfl, ?_⟩
      refine ⟨_, rfl, _, rfl, r, _, _, V.str us[i], rfl, rfl, SqL.of hr2, ?_, ?_⟩
      · show atI _ (0 + (i : Int)) = _
        rw [Int.zero_add]
        exact atI_nat (k := i) (by rw [List.getElem?_map, List.getElem?_eq_getElem hiu]; rfl)
      refine ⟨_, rfl, _, rfl, p, c, ns, _, 3, rfl, q1, by omega, by decide, ok_small (by decide), fun d2 H4 hd20 hd21 hp4 b4 => ?_⟩
      refine ⟨1, d2, rfl, rfl, p, c, ns, _, (1 + d2).toNat, by rw [show ((1 + d2).toNat : Int) = 1 + d2 by omega]; rfl, hp4, by omega, by omega, fun us2 r2 H5 hlen2 hnd2 hmem2 hr2n e5 hp5 b5 => ?_⟩
      refine ⟨(by show 2 ≤ sizeLine; decide), fun q H6 hq s6 e6 => ?_⟩
      have b46 : But p Hc' H6 := (b4.trans b5).trans (But.of s6)
      have r2lr : r2 ≠ lr := fun z => by
        have z1 := b4 _ _ (nlst q1 hacc) hacc
        rw [← z, hr2n] at z1; cases z1
      have hqH : H q = none := by
        obtain ⟨o, e⟩ := pD hp5
        exact But.free ((b02.trans hb).trans (b4.trans b5)) e hq
      refine hF _ H6 b46 ⟨(hp5.same s6).mono (by omega), tabs ++ [(us[i], us2)], qs ++ [q], by rw [List.map_append]; rfl, by rw [List.length_append, q3]; rfl, ?_, ?_, ?_, ?_⟩
      · refine paired_snoc (Paired.mapP q4 fun q t ⟨c2, z1, z2, z3⟩ => ⟨c2, b46 _ _ (fun z => ?_) z1, b46 _ _ (nlst q1 z2) z2, z3⟩) ⟨r2, e6, s6 _ _ e5, r2lr⟩
        obtain ⟨o, e⟩ := pD q1
        rw [z, e] at z1; cases z1
      · intro q' hq'
        rcases List.mem_append.mp hq' with h | h
        · exact q5 q' h
        · rw [List.mem_singleton.mp h]; exact hqH
      · rw [List.map_append, q6, List.take_add_one, List.getElem?_eq_getElem hiu]; rfl
      · intro t ht
        rcases List.mem_append.mp ht with h | h
        · exact q7 t h
        · rw [List.mem_singleton.mp h]
          exact ⟨fun z => by have z : us2 = [] := z; rw [z] at hlen2; simp at hlen2; omega, by show us2.length ≤ 3; omega, hnd2, hmem2⟩
    · rintro acc Hc hb hacc ⟨q1, tabs, qs, rfl, q3, q4, q5, q6, q7⟩
      refine k tabs qs lr Hc ⟨fun z => by rw [z] at q3; simp at q3; omega, by omega, fun t ht => ?_, ?_, q7⟩ hlrH hacc (Paired.mapP q4 fun q t ⟨c2, z1, z2, _⟩ => ⟨c2, z1, z2⟩) q5 (q1.mono (by omega)) (b02.trans hb)
      · have z : t.1 ∈ tabs.map (·.1) := List.mem_map.mpr ⟨t, ht, rfl⟩
        rw [q6] at z
        exact hmem _ (List.mem_of_mem_take z)
      · rw [q6]
        exact hnd.sublist (List.take_sublist _ us)
end
end L2.Pf
set_option maxHeartbeats 2000000
namespace L2.Pf
open PySem PySem.Spec PyProof.Rows L2.Ev L2.Tpd L2.Seti L2.Gq L2.Enf L2.Sett L2.Itr L2.Dls L2.Own L2.Ent
section
variable {P : Program} {w : World} {K : PySem.W.Frag} {mg : Str → Option Value} {base : Heap}
def tabLine (t : Str × List Str) : Str := Txt.join " " ("table" :: t.1 :: t.2)
def schemaText (tabs : Tabs) : Str := Txt.join "\n" (tabs.map tabLine)
theorem paired_get {α β : Type} {F : α → β → Prop} {a : List α} {b : List β} {n : Nat} {x : α} {y : β} (h : Paired F a b) : a[n]? = some x → b[n]? = some y → F x y := by
  induction h generalizing n with
  | nil => intro e; cases e
  | cons g t ih =>
    intro e1 e2
    cases n with
    | zero => cases e1; cases e2; exact g
    | succ n => exact ih (by simpa using e1) (by simpa using e2)
theorem names_len {y : Str} (h : y ∈ NAMES) : y.length ≤ 12 := by
  have z : ∀ y ∈ NAMES, y.length ≤ 12 := by decide +kernel
  exact z y h
theorem sum_len {l : List Str} {k : Nat} (h : ∀ x ∈ l, x.length ≤ k) : (l.map (·.length)).sum ≤ l.length * k := by
  induction l with
  | nil => simp
  | cons a r ih =>
    have i := ih fun x hx => h x (List.mem_cons_of_mem _ hx)
    have z := h a List.mem_cons_self
    simp only [List.map_cons, List.sum_cons, List.length_cons]
    rw [Nat.succ_mul]
    omega
theorem join_len (sep : Str) (ys : List Str) : (Txt.join sep ys).length ≤ (ys.map (·.length)).sum + ys.length * sep.length := by
  show (Builtin.Str.glued sep ys).length ≤ _
  rw [StrLaws.glued_eq_join]
  exact StrLaws.join_length_le sep ys
def sp_schema_text : Sp := fun vs H Q _ => ∃ (l : Addr) (qs : List Addr) (tabs : Tabs), vs = [.ref l] ∧ H l = some (.lst (qs.map V.ref)) ∧ TabsAt H qs tabs ∧ DrawnTabs 4 tabs ∧ ∀ H', Same H H' → Q (.str (schemaText tabs)) H'
theorem ok_schema_text (T : TX K mg) (B : TB T base) : FnOk P w K mg base CX0 1 T.a_schema_text T.fd_schema_text p_schema_text sp_schema_text := by
  refine T.F_schema_text.ok sc_schema_text (fun vs H Q E h => ?_) (fun cdv A outer s H vs Q E hr h => ?_)
  · obtain ⟨l, qs, tabs, rfl, _⟩ := h
    rfl
  · obtain ⟨l, qs, tabs, rfl, hl, hT, hD, k⟩ := h
    refine ⟨_, (pss_one (ps_ret (pe_joinK (K := K) rfl pe_str (pe_lc (own := [("_law_name", 1), ("_law_columns_here", 2)]) (g := gTup K 2 (gCons (gName 1) (gCons (gName 2) gNil))) (tt := tYes) rfl sc_schema_text.nd (pi_list (pv 0)) (blkOk_by (own := [("_law_name", 1), ("_law_columns_here", 2)]) (N := n_schema_text) (sc := defScope s_schema_text) (by decide +kernel)) (fun _ _ _ _ _ => (pg_tup rfl (pgs_cons (pg_name (i := 1) sc_schema_text.nd rfl (Or.inl rfl)) (pgs_cons (pg_name (i := 2) sc_schema_text.nd rfl (Or.inl rfl)) pgs_nil)))) (fun _ _ _ _ _ => pts_nil) (fun _ _ _ _ _ => (pe_joinK (K := K) rfl pe_str (pe_op op_catS (pe_lstS (pa_cons pe_str (pa_cons (pv 1) pa_nil))) (pv 2)))))))), ?_⟩
    have hlen : qs.length = tabs.length := Paired.length hT
    have hf := hD.few
    refine ⟨⟨_, rfl⟩, _, rfl, l, rfl, ⟨_, SqL.of hl⟩, fun D hD0 => ?_⟩
    refine lc_grow (n := tabs.length) hD0 (fun i acc H' => acc = ((tabs.take i).map tabLine).map V.str) (fun i acc H' o hp _ => hp) (fun _ _ => rfl)
      (fun i H' hi s1 => ⟨_, V.ref (qs[i]'(by omega)), SqL.of (s1 _ _ hl), by rw [List.getElem?_map, List.getElem?_eq_getElem (by omega)]; rfl⟩) (fun H' s1 => ⟨_, SqL.of (s1 _ _ hl), by rw [List.length_map]; omega⟩) (small1000 (by omega)) (fun i acc H' F G hF hG hi s1 hacc hp v H2 yl => ?_) (fun acc H' s1 ha hp => ?_)
    · obtain ⟨eH, ev⟩ := yl
      subst eH
      have ev := ev _ (SqL.of (s1 _ _ hl))
      rw [List.getElem?_map, List.getElem?_eq_getElem (show i < qs.length by omega)] at ev
      cases ev
      obtain ⟨c, h1, h2⟩ := paired_get hT (List.getElem?_eq_getElem (show i < qs.length by omega)) (List.getElem?_eq_getElem hi)
      refine ⟨_, _, rfl, SqT.of (s1 _ _ h1), rfl, _, _, rfl, _, _, rfl, rfl, rfl, ?_⟩
      have hmem : tabs[i] ∈ tabs := List.getElem_mem hi
      obtain ⟨c1, c2, c3, c4⟩ := hD.cols _ hmem
      have hn := hD.names _ hmem
      refine ⟨⟨_, rfl⟩, _, rfl, (by show 2 ≤ sizeLine; decide), fun a1 Ha n1 sa e1 => ?_⟩
      refine ⟨_, rfl, a1, c, _, _, rfl, rfl, e1, sa _ _ (s1 _ _ h2), Nat.le_of_lt (small1000 (by simp only [List.length_map, List.length_cons, List.length_nil]; omega)), fun b Hb nb sb eb => ?_⟩
      refine ⟨_, b, "table" :: tabs[i].1 :: tabs[i].2, rfl, rfl, .inl (SqL.of eb), ?_, hF _ Hb (sa.trans sb) ?_⟩
      · have z := sum_len (l := tabs[i].2) (k := 12) fun x hx => names_len (c4 x hx)
        have z2 := names_len hn
        simp only [List.map_cons, List.sum_cons, List.length_cons]
        have e5 : ("table" : Str).length = 5 := by decide +kernel
        have e6 : (" " : Str).length = 1 := by decide +kernel
        rw [e5, e6]
        omega
      · rw [hp, List.take_add_one, List.getElem?_eq_getElem hi]
        show _ = ((tabs.take i ++ [tabs[i]]).map tabLine).map V.str
        rw [List.map_append, List.map_append]; rfl
    · rw [List.take_length] at hp
      subst hp
      refine ⟨_, D, tabs.map tabLine, rfl, rfl, .inl (SqL.of ha), ?_, k H' s1⟩
      have z := sum_len (l := tabs.map tabLine) (k := 100) fun x hx => by
        obtain ⟨t, ht, e⟩ := List.mem_map.mp hx
        rw [← e]
        obtain ⟨c1, c2, c3, c4⟩ := hD.cols t ht
        unfold tabLine
        have z := join_len " " ("table" :: t.1 :: t.2)
        have z1 := sum_len (l := t.2) (k := 12) fun x hx => names_len (c4 x hx)
        have z2 := names_len (hD.names t ht)
        simp only [List.map_cons, List.sum_cons, List.length_cons] at z
        have e5 : ("table" : Str).length = 5 := by decide +kernel
        have e6 : (" " : Str).length = 1 := by decide +kernel
        rw [e5, e6] at z
        omega
      have e6 : ("\n" : Str).length = 1 := by decide +kernel
      rw [e6]
      rw [List.length_map] at z ⊢
      omega
end
end L2.Pf
set_option maxHeartbeats 2000000
namespace L2.Pf
open PySem PySem.Spec PyProof.Rows L2.Ev L2.Tpd L2.Seti L2.Gq L2.Enf L2.Sett L2.Itr L2.Dls L2.Own L2.Ent
section
variable {P : Program} {w : World} {K : PySem.W.Frag} {mg : Str → Option Value} {base : Heap}
def sp_pick (K : PySem.W.Frag) : Sp := fun vs H Q _ => ∃ (p c : Addr) (ns : List Int) (n : Nat) (a : Addr) (xs : List V), vs = [.ref p, .ref a] ∧ Pen H p c ns n ∧ H a = some (.lst xs) ∧ 1 ≤ xs.length ∧ xs.length ≤ 1000 ∧ n ≤ 2 ^ 50 ∧
  ∀ v H', v ∈ xs → Pen H' p c ns (n + 1) → But p H H' → Q v H'
theorem ok_pick (T : TX K mg) (B : TB T base) : FnOk P w K mg base CX0 2 T.a_pick T.fd_pick p_pick (sp_pick K) := by
  refine T.F_pick.ok sc_pick (fun vs H Q E h => ?_) (fun cdv A outer s H vs Q E hr h => ?_)
  · obtain ⟨p, c, ns, n, a, xs, rfl, _⟩ := h
    rfl
  · obtain ⟨p, c, ns, n, a, xs, rfl, hp, ha, h1, h2, hn, k⟩ := h
    refine ⟨_, (pss_one (ps_ret (pe_ix ix_list (pv 1) (pe_call (ok_draw T B) (hr.mono (by decide)) rfl T.g_draw T.F_draw.kp T.b_draw .nil pass0 (pa_cons (pv 0) (pa_cons (pe_callB call_len_seq (by rfl) T.z_len (by decide +kernel) (pa_cons (pv 1) pa_nil)) pa_nil))) (fun _ _ => rfl)))), ?_⟩
    have nap : a ≠ p := fun z => by
      obtain ⟨t, l, e, _⟩ := hp.d
      rw [z, e] at ha; cases ha
    refine ⟨_, rfl, _, rfl, _, rfl, a, xs, rfl, .inl (SqL.of ha), p, c, ns, n, (xs.length : Int), rfl, hp, by omega, by omega, ok_small (by omega), fun d H2 hd0 hd1 hp2 b2 => ?_⟩
    have hk : d.toNat < xs.length := by omega
    have e : atI xs ((d.toNat : Nat) : Int) = some (xs[d.toNat]) := atI_nat (k := d.toNat) (List.getElem?_eq_getElem hk)
    rw [show ((d.toNat : Nat) : Int) = d by omega] at e
    exact ⟨a, xs, d, _, rfl, rfl, SqL.of (b2 _ _ nap ha), e, k _ H2 (List.getElem_mem hk) hp2 b2⟩
theorem in_strs {x : Str} {ls : List Str} : inV (.str x) (ls.map V.str) = decide (x ∈ ls) := by
  unfold inV
  rw [List.any_map]
  induction ls with
  | nil => rfl
  | cons a r ih =>
    rw [List.any_cons, ih]
    show (decide (a = x) || _) = _
    by_cases h : a = x
    · rw [decide_eq_true h, decide_eq_true (show x ∈ a :: r from h ▸ List.mem_cons_self)]; rfl
    · rw [decide_eq_false h, Bool.false_or]
      by_cases h2 : x ∈ r
      · rw [decide_eq_true h2, decide_eq_true (List.mem_cons_of_mem _ h2)]
      · rw [decide_eq_false h2, decide_eq_false (fun z => (List.mem_cons.mp z).elim (fun z => h z.symm) h2)]
theorem flat_strs {ls : List Str} : (ls.map V.str).all flatV = true := by
  rw [List.all_map, List.all_eq_true]
  intro x _; rfl
end
end L2.Pf
set_option maxHeartbeats 2000000
namespace L2.Pf
open PySem PySem.Spec PyProof.Rows L2.Ev L2.Tpd L2.Seti L2.Gq L2.Enf L2.Sett L2.Itr L2.Dls L2.Own L2.Ent
section
variable {P : Program} {w : World} {K : PySem.W.Frag} {mg : Str → Option Value} {base : Heap}
structure GoodTab (t : Str × List Str) : Prop where
  name : t.1 ∈ NAMES
  ne : t.2 ≠ []
  few : t.2.length ≤ 3
  cols : ∀ y ∈ t.2, y ∈ NAMES
def TabAt (H : Hp) (q : Addr) (t : Str × List Str) : Prop := ∃ c, H q = some (.tup [.str t.1, .ref c]) ∧ H c = some (.lst (t.2.map V.str))
def spotOf (n y : Str) : Str := n ++ "." ++ y
def sp_spot : Sp := fun vs H Q _ => ∃ (p c : Addr) (ns : List Int) (n : Nat) (q : Addr) (t : Str × List Str), vs = [.ref p, .ref q] ∧ Pen H p c ns n ∧ TabAt H q t ∧ GoodTab t ∧ n ≤ 2 ^ 49 ∧
  ∀ y H', y ∈ t.2 → Pen H' p c ns (n + 1) → But p H H' → Q (.str (spotOf t.1 y)) H'
theorem ok_spot (T : TX K mg) (B : TB T base) : FnOk P w K mg base CX0 3 T.a_spot T.fd_spot p_spot sp_spot := by
  refine T.F_spot.ok sc_spot (fun vs H Q E h => ?_) (fun cdv A outer s H vs Q E hr h => ?_)
  · obtain ⟨p, c, ns, n, q, t, rfl, _⟩ := h
    rfl
  · obtain ⟨p, c, ns, n, q, t, rfl, hp, ⟨c2, h1, h2⟩, G, hn, k⟩ := h
    refine ⟨_, (pss_one (ps_ret (pe_op op_add_str (pe_op op_add_str (pe_ix ix_tup (pv 1) pe_int (fun _ _ => rfl)) pe_str) (pe_call (ok_pick T B) (hr.mono (by decide)) rfl T.g_pick T.F_pick.kp T.b_pick .nil pass0 (pa_cons (pv 0) (pa_cons (pe_ix ix_tup (pv 1) pe_int (fun _ _ => rfl)) pa_nil)))))), ?_⟩
    have l1 := names_len G.name
    have e1 : ("." : Str).length = 1 := by decide +kernel
    have hlen : t.2.length ≠ 0 := fun z => G.ne (List.length_eq_zero_iff.mp z)
    have hf := G.few
    refine ⟨_, rfl, q, _, 0, _, rfl, rfl, SqT.of h1, atI_nat (k := 0) rfl, _, _, rfl, rfl, Nat.le_of_lt (small1000 (by rw [e1]; omega)), ?_⟩
    refine ⟨_, rfl, _, rfl, q, _, 1, _, rfl, rfl, SqT.of h1, atI_nat (k := 1) rfl, p, c, ns, n, c2, _, rfl, hp, h2, by rw [List.length_map]; omega, by rw [List.length_map]; omega, by omega, fun v H' hv hp' b' => ?_⟩
    obtain ⟨y, hy, rfl⟩ := List.mem_map.mp hv
    have l2 := names_len (G.cols y hy)
    refine ⟨_, y, rfl, rfl, Nat.le_of_lt (small1000 (by rw [Str.length_append, e1]; omega)), k y H' hy hp' b'⟩
end
end L2.Pf
set_option maxHeartbeats 2000000
namespace L2.Pf
open PySem PySem.Spec PyProof.Rows L2.Ev L2.Tpd L2.Seti L2.Gq L2.Enf L2.Sett L2.Itr L2.Dls L2.Own L2.Ent
section
variable {P : Program} {w : World} {K : PySem.W.Frag} {mg : Str → Option Value} {base : Heap}
/-- what new_fact may draw over the tables in their order -/
inductive FactOf (tabs : Tabs) : Str → Prop
  | single {t : Str × List Str} : t ∈ tabs → FactOf tabs (("single " : Str) ++ t.1)
  | filled {t : Str × List Str} : t ∈ tabs → FactOf tabs (("filled " : Str) ++ t.1)
  | unique {t : Str × List Str} {y : Str} : t ∈ tabs → y ∈ t.2 → FactOf tabs (("unique " : Str) ++ spotOf t.1 y)
  | sorted {t : Str × List Str} {y : Str} : t ∈ tabs → y ∈ t.2 → FactOf tabs (("sorted " : Str) ++ spotOf t.1 y)
  | found {i j : Nat} {t u : Str × List Str} {y z : Str} : i < j → tabs[i]? = some t → tabs[j]? = some u → y ∈ t.2 → z ∈ u.2 → FactOf tabs (("found " : Str) ++ spotOf t.1 y ++ " in " ++ spotOf u.1 z)
def sp_new_fact : Sp := fun vs H Q _ => ∃ (p c : Addr) (ns : List Int) (n : Nat) (a : Addr) (qs : List Addr) (tabs : Tabs), vs = [.ref p, .ref a] ∧ Pen H p c ns n ∧ H a = some (.lst (qs.map V.ref)) ∧ Paired (TabAt H) qs tabs ∧ (∀ t ∈ tabs, GoodTab t) ∧ tabs ≠ [] ∧ tabs.length ≤ 16 ∧ n ≤ 2 ^ 48 ∧
  ∀ x H', FactOf tabs x → Pen H' p c ns (n + 5) → But p H H' → Q (.str x) H'
theorem ok_new_fact (T : TX K mg) (B : TB T base) : FnOk P w K mg base CX0 4 T.a_new_fact T.fd_new_fact p_new_fact sp_new_fact := by
  refine T.F_new_fact.ok sc_new_fact (fun vs H Q E h => ?_) (fun cdv A outer s H vs Q E hr h => ?_)
  · obtain ⟨p, c, ns, n, a, qs, tabs, rfl, _⟩ := h
    rfl
  · obtain ⟨p, c, ns, n, a, qs, tabs, rfl, hp, ha, hT, hG, hne, hfew, hn, k⟩ := h
    refine ⟨_, (pss_cons (ps_par (i := 2) (j := 3) (by rfl) sc_new_fact.nd rfl rfl (by decide) rfl rfl (pa_cons (pe_call (ok_draw T B) (hr.mono (by decide)) rfl T.g_draw T.F_draw.kp T.b_draw .nil pass0 (pa_cons (pv 0) (pa_cons (pe_callB call_len_seq (by rfl) T.z_len (by decide +kernel) (pa_cons (pv 1) pa_nil)) pa_nil))) (pa_cons (pe_call (ok_draw T B) (hr.mono (by decide)) rfl T.g_draw T.F_draw.kp T.b_draw .nil pass0 (pa_cons (pv 0) (pa_cons pe_int pa_nil))) pa_nil)) (by rfl))
  (pss_cons (ps_if (pt_cmpR op_lt (pv 3) pe_int (nomark _)) (pss_one (ps_ret (pe_op op_add_str (pe_ix ix_list (pe_lstS (pa_cons pe_str (pa_cons pe_str pa_nil))) (pv 3) (fun _ _ => rfl)) (pe_ix ix_tup (pe_ix ix_list (pv 1) (pv 2) (fun _ _ => rfl)) pe_int (fun _ _ => rfl))))) pss_nil)
  (pss_join (ps_if (PW.pt (pw_or (pt_cmpR op_lt (pv 3) pe_int (nomark _)) (pw_or1 (pt_cmpR op_eq (pe_op op_add (pv 2) pe_int) (pe_callB call_len_seq (by rfl) T.z_len (by decide +kernel) (pa_cons (pv 1) pa_nil)) (nomark _))))) (pss_one (ps_ret (pe_op op_add_str (pe_ix ix_list (pe_lstS (pa_cons pe_str (pa_cons pe_str pa_nil))) (pe_op op_mod (pe_callTy call_int1 (by rfl) T.z_int (by decide +kernel) (pa_cons (pv 3) pa_nil)) pe_int) (fun _ _ => rfl)) (pe_call (ok_spot T B) (hr.mono (by decide)) rfl T.g_spot T.F_spot.kp T.b_spot .nil pass0 (pa_cons (pv 0) (pa_cons (pe_ix ix_list (pv 1) (pv 2) (fun _ _ => rfl)) pa_nil)))))) pss_nil)
  (pss_one (ps_ret (pe_op op_add_str (pe_op op_add_str (pe_op op_add_str pe_str (pe_call (ok_spot T B) (hr.mono (by decide)) rfl T.g_spot T.F_spot.kp T.b_spot .nil pass0 (pa_cons (pv 0) (pa_cons (pe_ix ix_list (pv 1) (pv 2) (fun _ _ => rfl)) pa_nil)))) pe_str) (pe_call (ok_spot T B) (hr.mono (by decide)) rfl T.g_spot T.F_spot.kp T.b_spot .nil pass0 (pa_cons (pv 0) (pa_cons (pe_call (ok_pick T B) (hr.mono (by decide)) rfl T.g_pick T.F_pick.kp T.b_pick .nil pass0 (pa_cons (pv 0) (pa_cons (pe_slice (sl_listS (K := K)) (pv 1) (po_some (pe_op op_add (pv 2) pe_int)) po_none) pa_nil))) pa_nil))))))))), ?_⟩
    have hql : qs.length = tabs.length := Paired.length hT
    have hml : (qs.map V.ref).length = tabs.length := by rw [List.length_map, hql]
    have h1 : tabs.length ≠ 0 := fun z => hne (List.length_eq_zero_iff.mp z)
    have keepT : ∀ {H' : Hp} {q : Addr} {t : Str × List Str}, But p H H' → TabAt H q t → TabAt H' q t := fun {H' q t} b ⟨c2, z1, z2⟩ => by
      obtain ⟨t0, l0, e0, _⟩ := hp.d
      exact ⟨c2, b _ _ (fun z => by rw [z, e0] at z1; cases z1) z1, b _ _ (fun z => by rw [z, e0] at z2; cases z2) z2⟩
    have keepL : ∀ {H' : Hp}, But p H H' → H' a = some (.lst (qs.map V.ref)) := fun {H'} b => by
      obtain ⟨t0, l0, e0, _⟩ := hp.d
      exact b _ _ (fun z => by rw [z, e0] at ha; cases ha) ha
    refine ⟨_, rfl, _, rfl, a, _, rfl, .inl (SqL.of ha), p, c, ns, n, _, rfl, hp, by omega, by omega, ok_small (by omega), fun d H1 hd0 hd1 hp1 b1 => ?_⟩
    refine ⟨_, rfl, p, c, ns, n + 1, 7, rfl, hp1, by omega, by decide, ok_small (by decide), fun v H2 hv0 hv1 hp2 b2 => ?_⟩
    have b02 := b1.trans b2
    obtain ⟨i, rfl⟩ : ∃ i : Nat, d = (i : Int) := ⟨d.toNat, by omega⟩
    rw [hml] at hd1
    have hi : i < tabs.length := by omega
    have hiq : i < qs.length := by omega
    have hti := keepT b02 (paired_get hT (List.getElem?_eq_getElem hiq) (List.getElem?_eq_getElem hi))
    have hmem : tabs[i] ∈ tabs := List.getElem_mem hi
    have G := hG _ hmem
    have hat : atI (qs.map V.ref) ((i : Nat) : Int) = some (V.ref qs[i]) := atI_nat (k := i) (by rw [List.getElem?_map, List.getElem?_eq_getElem hiq]; rfl)
    have small : ∀ {x y : Str}, x.length + y.length < 1000 → x.length + y.length ≤ sizeLine := fun h => Nat.le_of_lt (small1000 (Nat.le_of_lt h))
    have lspot : ∀ {t : Str × List Str} {y : Str}, GoodTab t → y ∈ t.2 → (spotOf t.1 y).length ≤ 25 := fun {t y} G hy => by
      have z1 := names_len G.name
      have z2 := names_len (G.cols y hy)
      have e1 : ("." : Str).length = 1 := by decide +kernel
      unfold spotOf
      rw [Str.length_append, Str.length_append, e1]
      omega
    have eU : ("unique " : Str).length = 7 := by decide +kernel
    have eS : ("sorted " : Str).length = 7 := by decide +kernel
    have eG : ("single " : Str).length = 7 := by decide +kernel
    have eF : ("filled " : Str).length = 7 := by decide +kernel
    have eN : ("found " : Str).length = 6 := by decide +kernel
    have eI : (" in " : Str).length = 4 := by decide +kernel
    have ln := names_len G.name
    refine ⟨_, _, rfl, ?_⟩
    refine ⟨_, rfl, v, 2, rfl, rfl, _, rfl, ?_⟩
    by_cases hv : v < 2
    · rw [decide_eq_true hv]
      refine iteT ?_
      refine ⟨(by show 2 ≤ sizeLine; decide), fun a1 Ha n1 sa e1 => ?_⟩
      have bb := b02.trans (But.of sa)
      obtain ⟨c2, z1, z2⟩ := keepT bb (paired_get hT (List.getElem?_eq_getElem hiq) (List.getElem?_eq_getElem hi))
      have hv2 : v = 0 ∨ v = 1 := by omega
      rcases hv2 with rfl | rfl
      · exact ⟨_, rfl, a1, _, 0, .str "single ", rfl, rfl, SqL.of e1, atI_nat (k := 0) rfl, _, rfl, _, rfl, a, _, (i : Int), _, rfl, rfl, SqL.of (keepL bb), hat, qs[i], _, 0, _, rfl, rfl, SqT.of z1, atI_nat (k := 0) rfl, _, _, rfl, rfl, small (by omega), k _ Ha (.single hmem) ((hp2.same sa).mono (by omega)) bb⟩
      · exact ⟨_, rfl, a1, _, 1, .str "filled ", rfl, rfl, SqL.of e1, atI_nat (k := 1) rfl, _, rfl, _, rfl, a, _, (i : Int), _, rfl, rfl, SqL.of (keepL bb), hat, qs[i], _, 0, _, rfl, rfl, SqT.of z1, atI_nat (k := 0) rfl, _, _, rfl, rfl, small (by omega), k _ Ha (.filled hmem) ((hp2.same sa).mono (by omega)) bb⟩
    · rw [decide_eq_false hv]
      refine iteF ?_
      refine ⟨fun σ2 H3 => i + 1 < tabs.length ∧ σ2 = [some (.ref p), some (.ref a), some (.int (i : Int)), some (.int v)] ∧ H3 = H2, ⟨_, rfl, v, 4, rfl, rfl, _, rfl, ?_⟩, ?_⟩
      · by_cases h4 : v < 4
        · rw [decide_eq_true h4]
          refine iteT (iteT ?_)
          refine ⟨(by show 2 ≤ sizeLine; decide), fun a1 Ha n1 sa e1 => ?_⟩
          have hv2 : v % 2 = 0 ∨ v % 2 = 1 := by omega
          have bb := b02.trans (But.of sa)
          rcases hv2 with hm | hm
          · refine ⟨_, rfl, .inl ⟨v, rfl, v, 2, rfl, rfl, (by show (0 : Int) < 2; decide), a1, _, v % 2, .str "unique ", rfl, rfl, SqL.of e1, (by rw [hm]; exact atI_nat (k := 0) rfl), _, rfl, _, rfl, _, rfl, a, _, (i : Int), _, rfl, rfl, SqL.of (keepL bb), hat, p, c, ns, n + 1 + 1, qs[i], tabs[i], rfl, hp2.same sa, keepT bb (paired_get hT (List.getElem?_eq_getElem hiq) (List.getElem?_eq_getElem hi)), G, by omega, fun y H4 hy hp4 b4 => ⟨_, _, rfl, rfl, small (by have z := lspot G hy; have e := eU; omega), k _ H4 (.unique hmem hy) (hp4.mono (by omega)) (bb.trans b4)⟩⟩⟩
          · refine ⟨_, rfl, .inl ⟨v, rfl, v, 2, rfl, rfl, (by show (0 : Int) < 2; decide), a1, _, v % 2, .str "sorted ", rfl, rfl, SqL.of e1, (by rw [hm]; exact atI_nat (k := 1) rfl), _, rfl, _, rfl, _, rfl, a, _, (i : Int), _, rfl, rfl, SqL.of (keepL bb), hat, p, c, ns, n + 1 + 1, qs[i], tabs[i], rfl, hp2.same sa, keepT bb (paired_get hT (List.getElem?_eq_getElem hiq) (List.getElem?_eq_getElem hi)), G, by omega, fun y H4 hy hp4 b4 => ⟨_, _, rfl, rfl, small (by have z := lspot G hy; have e := eS; omega), k _ H4 (.sorted hmem hy) (hp4.mono (by omega)) (bb.trans b4)⟩⟩⟩
        · rw [decide_eq_false h4]
          refine iteF ⟨_, rfl, (i : Int), 1, rfl, rfl, _, rfl, a, _, rfl, .inl (SqL.of (keepL b02)), rfl, _, rfl, ?_⟩
          by_cases he : i + 1 = tabs.length
          · rw [decide_eq_true (show V.int ((i : Int) + 1) = V.int (((qs.map V.ref).length : Nat) : Int) by rw [hml, ← he]; rfl)]
            refine iteT ?_
            refine ⟨(by show 2 ≤ sizeLine; decide), fun a1 Ha n1 sa e1 => ?_⟩
            have hv2 : v % 2 = 0 ∨ v % 2 = 1 := by omega
            have bb := b02.trans (But.of sa)
            rcases hv2 with hm | hm
            · refine ⟨_, rfl, .inl ⟨v, rfl, v, 2, rfl, rfl, (by show (0 : Int) < 2; decide), a1, _, v % 2, .str "unique ", rfl, rfl, SqL.of e1, (by rw [hm]; exact atI_nat (k := 0) rfl), _, rfl, _, rfl, _, rfl, a, _, (i : Int), _, rfl, rfl, SqL.of (keepL bb), hat, p, c, ns, n + 1 + 1, qs[i], tabs[i], rfl, hp2.same sa, keepT bb (paired_get hT (List.getElem?_eq_getElem hiq) (List.getElem?_eq_getElem hi)), G, by omega, fun y H4 hy hp4 b4 => ⟨_, _, rfl, rfl, small (by have z := lspot G hy; have e := eU; omega), k _ H4 (.unique hmem hy) (hp4.mono (by omega)) (bb.trans b4)⟩⟩⟩
            · refine ⟨_, rfl, .inl ⟨v, rfl, v, 2, rfl, rfl, (by show (0 : Int) < 2; decide), a1, _, v % 2, .str "sorted ", rfl, rfl, SqL.of e1, (by rw [hm]; exact atI_nat (k := 1) rfl), _, rfl, _, rfl, _, rfl, a, _, (i : Int), _, rfl, rfl, SqL.of (keepL bb), hat, p, c, ns, n + 1 + 1, qs[i], tabs[i], rfl, hp2.same sa, keepT bb (paired_get hT (List.getElem?_eq_getElem hiq) (List.getElem?_eq_getElem hi)), G, by omega, fun y H4 hy hp4 b4 => ⟨_, _, rfl, rfl, small (by have z := lspot G hy; have e := eS; omega), k _ H4 (.sorted hmem hy) (hp4.mono (by omega)) (bb.trans b4)⟩⟩⟩
          · rw [decide_eq_false (show ¬ V.int ((i : Int) + 1) = V.int (((qs.map V.ref).length : Nat) : Int) from fun z => he (by have z := V.int.inj z; rw [hml] at z; omega))]
            exact iteF ⟨by omega, rfl, rfl⟩
      · rintro σ2 H3 ⟨hlt, rfl, rfl⟩
        refine ⟨_, rfl, _, rfl, _, rfl, a, _, (i : Int), _, rfl, rfl, SqL.of (keepL b02), hat, p, c, ns, n + 1 + 1, qs[i], tabs[i], rfl, hp2, hti, G, by omega, fun y H4 hy hp4 b4 => ?_⟩
        have b04 := b02.trans b4
        have ly := lspot G hy
        refine ⟨_, _, rfl, rfl, small (by omega), _, _, rfl, rfl, small (by rw [Str.length_append]; omega), ?_⟩
        refine ⟨_, rfl, _, rfl, _, rfl, _, rfl, (i : Int), 1, rfl, rfl, (i : Int) + 1, rfl, a, _, rfl, SqL.of (keepL b04), fun r Hr nr sr er => ?_⟩
        have ec : cutV (qs.map V.ref) (some ((i : Int) + 1)) none = (qs.drop (i + 1)).map V.ref := by rw [cut_from _ (z := (i : Int) + 1) (k := i + 1) (by omega), List.map_drop]
        rw [ec] at er
        refine ⟨p, c, ns, n + 1 + 1 + 1, r, _, rfl, hp4.same sr, er, by rw [List.length_map, List.length_drop]; omega, by rw [List.length_map, List.length_drop]; omega, by omega, fun v2 H5 hv2 hp5 b5 => ?_⟩
        obtain ⟨q2, hq2, rfl⟩ := List.mem_map.mp hv2
        obtain ⟨j, hj, ej⟩ := List.getElem_of_mem hq2
        have hj2 : i + 1 + j < qs.length := by rw [List.length_drop] at hj; omega
        have hj3 : i + 1 + j < tabs.length := by omega
        have ej2 : qs[i + 1 + j]? = some q2 := by rw [List.getElem?_eq_getElem hj2, ← ej, List.getElem_drop]
        have b05 := (b04.trans (But.of sr)).trans b5
        have G2 := hG _ (List.getElem_mem hj3)
        refine ⟨p, c, ns, n + 1 + 1 + 1 + 1, q2, tabs[i + 1 + j], rfl, hp5, keepT b05 (paired_get hT ej2 (List.getElem?_eq_getElem hj3)), G2, by omega, fun z H6 hz hp6 b6 => ?_⟩
        have lz := lspot G2 hz
        exact ⟨_, _, rfl, rfl, small (by rw [Str.length_append, Str.length_append]; omega), k _ H6 (.found (i := i) (j := i + 1 + j) (by omega) (List.getElem?_eq_getElem hi) (List.getElem?_eq_getElem hj3) hy hz) (hp6.mono (by omega)) (b05.trans b6)⟩
end
end L2.Pf
set_option maxHeartbeats 2000000
namespace L2.Pf
open PySem PySem.Spec PyProof.Rows L2.Ev L2.Tpd L2.Seti L2.Gq L2.Enf L2.Sett L2.Itr L2.Dls L2.Own L2.Ent
section
variable {P : Program} {w : World} {K : PySem.W.Frag} {mg : Str → Option Value} {base : Heap}
theorem perm_paired {α : Type} {F : Addr → α → Prop} {ys xs : List V} (h : ys.Perm xs) : ∀ (qs : List Addr) (ts : List α), xs = qs.map V.ref → Paired F qs ts → ∃ qs' ts', ys = qs'.map V.ref ∧ ts'.Perm ts ∧ Paired F qs' ts' := by
  induction h with
  | nil =>
    intro qs ts e p
    cases p with
    | nil => exact ⟨[], [], rfl, .refl _, .nil⟩
    | cons g t => cases e
  | cons x h ih =>
    intro qs ts e p
    cases p with
    | nil => cases e
    | cons g t =>
      rename_i q b l r
      rw [List.map_cons] at e
      injection e with e1 e2
      obtain ⟨qs', ts', h1, h2, h3⟩ := ih l r e2 t
      exact ⟨q :: qs', b :: ts', by rw [e1, h1]; rfl, h2.cons b, .cons g h3⟩
  | swap x y l =>
    intro qs ts e p
    cases p with
    | nil => cases e
    | cons g t =>
      rename_i q b l1 r1
      cases t with
      | nil =>
        rw [List.map_cons] at e
        injection e with e1 e2
        cases e2
      | cons g2 t2 =>
        rename_i q2 b2 l2 r2
        rw [List.map_cons, List.map_cons] at e
        injection e with e1 e2
        injection e2 with e2 e3
        exact ⟨q2 :: q :: l2, b2 :: b :: r2, by rw [e1, e2, e3]; rfl, .swap .., .cons g2 (.cons g t2)⟩
  | trans h1 h2 i1 i2 =>
    intro qs ts e p
    obtain ⟨qs', ts', h3, h4, h5⟩ := i2 qs ts e p
    obtain ⟨qs2, ts2, h6, h7, h8⟩ := i1 qs' ts' h3 h5
    exact ⟨qs2, ts2, h6, h7.trans h4, h8⟩
def sp_new_facts : Sp := fun vs H Q _ => ∃ (p c : Addr) (ns : List Int) (n : Nat) (a : Addr) (qs : List Addr) (tabs : Tabs) (m : Nat), vs = [.ref p, .ref a, .int (m : Int)] ∧ Pen H p c ns n ∧ H a = some (.lst (qs.map V.ref)) ∧ Paired (TabAt H) qs tabs ∧ (∀ t ∈ tabs, GoodTab t) ∧ tabs ≠ [] ∧ tabs.length ≤ 16 ∧ m ≤ 20 ∧ n ≤ 2 ^ 47 ∧
  ∀ (order : Tabs) (ls : List Str) r H', order.Perm tabs → ls.length = m → (∀ x ∈ ls, FactOf order x) → H r = none → H' r = some (.lst (ls.map V.str)) → Pen H' p c ns (n + 200) → But p H H' → Q (.ref r) H'
theorem ok_new_facts (T : TX K mg) (B : TB T base) : FnOk P w K mg base CX0 5 T.a_new_facts T.fd_new_facts p_new_facts sp_new_facts := by
  refine T.F_new_facts.ok sc_new_facts (fun vs H Q E h => ?_) (fun cdv A outer s H vs Q E hr h => ?_)
  · obtain ⟨p, c, ns, n, a, qs, tabs, m, rfl, _⟩ := h
    rfl
  · obtain ⟨p, c, ns, n, a, qs, tabs, m, rfl, hp, ha, hT, hG, hne, hfew, hm, hn, k⟩ := h
    refine ⟨_, (pss_cons (ps_set (i := 3) sc_new_facts.nd rfl (Or.inr rfl) (pe_call (ok_shuffled T B) (hr.mono (by decide)) rfl T.g_shuffled T.F_shuffled.kp T.b_shuffled .nil pass0 (pa_cons (pv 0) (pa_cons (pv 1) pa_nil))))
  (pss_one (ps_ret (pe_lc (own := [("_law_k", 4)]) (g := gName 4) (tt := tYes) rfl sc_new_facts.nd (pi_range1 (by rfl) T.z_range (pa_cons (pv 2) pa_nil)) (blkOk_by (own := [("_law_k", 4)]) (N := n_new_facts) (sc := defScope s_new_facts) (by decide +kernel)) (fun _ _ _ _ _ => (pg_name (i := 4) sc_new_facts.nd rfl (Or.inl rfl))) (fun _ _ _ _ _ => pts_nil) (fun _ _ _ _ _ => (pe_call (ok_new_fact T B) (hr.mono (by decide)) rfl T.g_new_fact T.F_new_fact.kp T.b_new_fact .nil pass0 (pa_cons (pv 0) (pa_cons (pv 3) pa_nil)))))))), ?_⟩
    have hql : qs.length = tabs.length := Paired.length hT
    refine ⟨_, rfl, _, rfl, p, c, ns, n, a, _, rfl, hp, .inl (SqL.of ha), by rw [List.length_map]; omega, by omega, fun ys r1 H1 hys hr1 e1 hp1 b1 => ?_⟩
    obtain ⟨qs2, order, rfl, hperm, hT2⟩ := perm_paired hys qs tabs rfl hT
    have hlo : order.length = tabs.length := hperm.length_eq
    have hp1 : Pen H1 p c ns (n + 16) := hp1.mono (by rw [List.length_map]; omega)
    have keepT : ∀ {H H' : Hp} {k : Nat}, Pen H p c ns k → But p H H' → ∀ q t, TabAt H q t → TabAt H' q t := fun {H H' k} hp b q t ⟨c2, z1, z2⟩ => by
      obtain ⟨t0, l0, e0, _⟩ := hp.d
      exact ⟨c2, b _ _ (fun z => by rw [z, e0] at z1; cases z1) z1, b _ _ (fun z => by rw [z, e0] at z2; cases z2) z2⟩
    have nlst : ∀ {b : Addr} {xs : List V} {H : Hp} {k : Nat}, Pen H p c ns k → H b = some (.lst xs) → b ≠ p := fun q e2 z => by
      obtain ⟨t0, l0, e0, _⟩ := q.d
      rw [z, e0] at e2; cases e2
    have hT1 : Paired (TabAt H1) qs2 order := Paired.mapP hT2 fun q t z => keepT hp b1 q t z
    have hG2 : ∀ t ∈ order, GoodTab t := fun t ht => hG t (hperm.mem_iff.mp ht)
    have hne2 : order ≠ [] := fun z => hne (by rw [z] at hlo; exact List.length_eq_zero_iff.mp hlo.symm)
    refine ⟨_, rfl, (m : Int), rfl, by omega, by omega, fun lr hlr => ?_⟩
    rw [Int.toNat_natCast]
    have nlp : lr ≠ p := fun z => by
      obtain ⟨t0, l0, e0, _⟩ := hp1.d
      rw [z, e0] at hlr; cases hlr
    have nlc : lr ≠ c := fun z => by
      have e := hp1.cells
      rw [← z, hlr] at e; cases e
    have hlrH : H lr = none := by
      obtain ⟨t0, l0, e0, _⟩ := hp1.d
      exact But.free b1 e0 hlr
    refine lc_growB (n := m) (p := p) hlr nlp (fun i acc Hc => Pen Hc p c ns (n + 16 + 5 * i) ∧ ∃ ls : List Str, acc = ls.map V.str ∧ ls.length = i ∧ ∀ x ∈ ls, FactOf order x) ?_ ?_ ?_ ?_ (small1000 (by omega)) ?_ ?_
    · rintro i acc Hc o ⟨q1, q2⟩ _
      exact ⟨q1.upd nlp nlc, q2⟩
    · intro Hc s
      exact ⟨hp1.same s, [], rfl, rfl, fun x hx => (by cases hx)⟩
    · intro i Hc hi _
      exact hi
    · intro Hc _
      exact Nat.le_refl m
    · rintro i acc Hc F G hF hG' hi hb hacc ⟨q1, ls, rfl, q3, q4⟩ x Hc' ⟨rfl, rfl⟩
      refine ⟨rfl, ?_⟩
      refine ⟨_, rfl, _, rfl, p, c, ns, _, r1, qs2, order, rfl, q1, hb _ _ (nlst hp1 e1) e1, Paired.mapP hT1 fun q t z => keepT hp1 hb q t z, hG2, hne2, by omega, by omega, fun x H4 hx hp4 b4 => ?_⟩
      refine hF _ H4 b4 ⟨hp4.mono (by omega), ls ++ [x], by rw [List.map_append]; rfl, by rw [List.length_append, q3]; rfl, fun y hy => ?_⟩
      rcases List.mem_append.mp hy with h | h
      · exact q4 y h
      · rw [List.mem_singleton.mp h]; exact hx
    · rintro acc Hc hb hacc ⟨q1, ls, rfl, q3, q4⟩
      exact k order ls lr Hc hperm q3 q4 hlrH hacc (q1.mono (by omega)) (b1.trans hb)
end
end L2.Pf
set_option maxHeartbeats 2000000
namespace L2.Pf
open PySem PySem.Spec PyProof.Rows L2.Ev L2.Tpd L2.Seti L2.Gq L2.Enf L2.Sett L2.Itr L2.Dls L2.Own L2.Ent
section
variable {P : Program} {w : World} {K : PySem.W.Frag} {mg : Str → Option Value} {base : Heap}
/-- a row of integers at q -/
def RowAt (H : Hp) (q : Addr) (r : List Int) : Prop := H q = some (.tup (r.map V.int))
/-- a list of rows at l -/
def RowsAt (H : Hp) (l : Addr) (rs : List (List Int)) : Prop := ∃ qs : List Addr, H l = some (.lst (qs.map V.ref)) ∧ Paired (RowAt H) qs rs
theorem kit_int : PySem.W.kitOne K (.type "int") (.type "int") = some true := by
  unfold PySem.W.kitOne
  exact if_pos (by decide +kernel)
theorem kit_tup : PySem.W.kitOne K (.type "tuple") (.type "tuple") = some true := by
  unfold PySem.W.kitOne
  exact if_pos (by decide +kernel)
theorem kit_bool : PySem.W.kitOne K (.type "int") (.type "bool") = some false := by
  unfold PySem.W.kitOne
  rw [if_neg (by decide +kernel)]
  show (if PySem.W.kitMeta "bool" = true then PySem.W.subIn K (.type "int") (.type "bool") else none) = _
  rw [if_pos (by decide +kernel)]
  first | exact rfl | kernel_rfl
def sp_is_integer : Sp := fun vs H Q _ => ∃ i : Int, vs = [.int i] ∧ Q (.bl true) H
theorem ok_is_integer (T : TX K mg) (B : TB T base) : FnOk P w K mg base CX0 1 T.a_is_integer T.fd_is_integer p_is_integer sp_is_integer := by
  refine T.F_is_integer.ok sc_is_integer (fun vs H Q E h => ?_) (fun cdv A outer s H vs Q E hr h => ?_)
  · obtain ⟨i, rfl, _⟩ := h
    rfl
  · obtain ⟨i, rfl, k⟩ := h
    refine ⟨_, (pss_one (ps_ret (pe_and (pe_callB call_isi (by rfl) T.z_isinstance (by decide +kernel) (pa_cons (pv 0) (pa_cons (pe_bltn (v := .ty "int") (u := .type "int") (by rfl) T.z_int (by decide +kernel) rfl) pa_nil))) (pe_one (pe_not (pe_callB call_isi (by rfl) T.z_isinstance (by decide +kernel) (pa_cons (pv 0) (pa_cons (pe_bltn (v := .ty "bool") (u := .type "bool") (by rfl) T.z_bool (by decide +kernel) rfl) pa_nil)))))))), ?_⟩
    refine ⟨_, rfl, _, _, _, _, true, rfl, .ty _, .base (.int i), kit_int, true, rfl, ?_⟩
    exact ⟨_, rfl, _, _, _, _, false, rfl, .ty _, .base (.int i), kit_bool, false, rfl, k⟩
theorem width_dec {r : List Int} {n : Nat} : decide (V.int (((r.map V.int).length : Nat) : Int) = V.int (n : Int)) = decide (r.length = n) := by
  rw [List.length_map]
  by_cases h : r.length = n
  · rw [decide_eq_true h, decide_eq_true (by rw [h])]
  · rw [decide_eq_false h, decide_eq_false (fun z => h (by have z2 := V.int.inj z; omega))]
def sp_is_row (PR : Addr) : Sp := fun vs H Q _ => ∃ (q : Addr) (r : List Int) (n : Nat), vs = [.ref q, .int (n : Int)] ∧ RowAt H q r ∧ r.length ≤ 1000 ∧ H PR = some (TabX PR) ∧ ∀ H', Same H H' → Q (.bl (decide (r.length = n))) H'
theorem ok_is_row (T : TX K mg) (B : TB T base) : FnOk P w K mg base CX0 3 T.a_is_row T.fd_is_row p_is_row (sp_is_row T.P_is_row) := by
  refine Fun.okC T.F_is_row T.t_is_row sc_is_row (fun vs H Q E h => ?_) (fun A outer s H vs Q E hr h => ?_)
  · obtain ⟨q, r, n, rfl, _⟩ := h
    rfl
  · obtain ⟨q, r, n, rfl, hq, hl, hP, k⟩ := h
    refine ⟨_, (pss_one (ps_ret (pe_and (pe_callB call_isi (by rfl) T.z_isinstance (by decide +kernel) (pa_cons (pv 0) (pa_cons (pe_bltn (v := .ty "tuple") (u := .type "tuple") (by rfl) T.z_tuple (by decide +kernel) rfl) pa_nil))) (pe_and (pe_cmpR op_eq (pe_callB call_len_seq (by rfl) T.z_len (by decide +kernel) (pa_cons (pv 0) pa_nil)) (pv 1) (nomark _)) (pe_one (pe_allQ (own := [("value", 2)]) (gt := gName 2) (tt := tYes) hr (by rfl) T.z_all (by decide +kernel) B.b_is_row rfl ⟨blkOk_by (own := [("value", 2)]) (N := n_is_row) (sc := defScope s_is_row) (by decide +kernel), rfl, by decide +kernel, rfl⟩ sc_is_row.nd (pi_tup (pv 0)) (fun _ _ _ _ _ _ _ hr => (pg_name (i := 2) sc_is_row.nd rfl (Or.inl rfl))) (fun _ _ _ _ _ _ _ hr => pts_nil) (fun _ _ _ _ _ _ _ hr => (pe_call (ok_is_integer T B) (hr.mono (by decide)) rfl T.g_is_integer T.F_is_integer.kp T.b_is_integer .nil pass0 (pa_cons (pv 2) pa_nil))))))))), ?_⟩
    refine ⟨_, rfl, _, _, _, _, true, rfl, .ty _, .base (.tup hq), kit_tup, true, rfl, ?_⟩
    refine ⟨_, rfl, q, _, rfl, .inr (SqT.of hq), _, rfl, rfl, _, rfl, ?_⟩
    rw [width_dec]
    by_cases h : r.length = n
    · rw [decide_eq_true h] at k ⊢
      refine iteT ⟨_, rfl, q, rfl, ⟨_, SqT.of hq⟩, hP, ?_⟩
      refine q_turns (n := r.length) (fun _ => true) (fun _ H4 => H4 = H) rfl (fun H4 e => ?_) (fun i H4 hi e => ?_) (fun i v H4 H5 Qc hi e y hq' => ?_) (fun H4 e hf => ?_) (fun i H4 hi e hf hb => ?_)
      · subst e; exact ⟨_, SqT.of hq, by rw [List.length_map]; exact Nat.le_refl _⟩
      · subst e; exact ⟨_, V.int r[i], SqT.of hq, by rw [List.getElem?_map, List.getElem?_eq_getElem hi]; rfl⟩
      · subst e
        obtain ⟨eH, ev⟩ := y
        subst eH
        have ev := ev _ (SqT.of hq)
        rw [List.getElem?_map, List.getElem?_eq_getElem hi] at ev
        cases ev
        exact ⟨rfl, _, rfl, r[i], rfl, hq' _ rfl⟩
      · subst e; exact k _ (Same.refl _)
      · cases hf
    · rw [decide_eq_false h] at k ⊢
      exact iteF (k _ (Same.refl _))
theorem rowsAt_same {H H' : Hp} {l : Addr} {rs : List (List Int)} (h : RowsAt H l rs) (s : Same H H') : RowsAt H' l rs := let ⟨qs, e, p⟩ := h; ⟨qs, s _ _ e, Paired.mapP p fun _ _ z => s _ _ z⟩
def sp_are_rows (PR PS : Addr) : Sp := fun vs H Q _ => ∃ (l : Addr) (rs : List (List Int)) (n : Nat), vs = [.ref l, .int (n : Int)] ∧ RowsAt H l rs ∧ rs.length ≤ 1000 ∧ (∀ r ∈ rs, r.length ≤ 1000) ∧ H PR = some (TabX PR) ∧ H PS = some (TabX PS) ∧ ∀ H', Same H H' → Q (.bl (rs.all fun r => decide (r.length = n))) H'
theorem ok_are_rows (T : TX K mg) (B : TB T base) : FnOk P w K mg base CX0 5 T.a_are_rows T.fd_are_rows p_are_rows (sp_are_rows T.P_is_row T.P_are_rows) := by
  refine Fun.okC T.F_are_rows T.t_are_rows sc_are_rows (fun vs H Q E h => ?_) (fun A outer s H vs Q E hr h => ?_)
  · obtain ⟨l, rs, n, rfl, _⟩ := h
    rfl
  · obtain ⟨l, rs, n, rfl, ⟨qs, hl, hqs⟩, hrl, hr1, hP1, hP2, k⟩ := h
    refine ⟨_, (pss_one (ps_ret (pe_allQ (own := [("row", 2)]) (gt := gName 2) (tt := tYes) hr (by rfl) T.z_all (by decide +kernel) B.b_are_rows rfl ⟨blkOk_by (own := [("row", 2)]) (N := n_are_rows) (sc := defScope s_are_rows) (by decide +kernel), rfl, by decide +kernel, rfl⟩ sc_are_rows.nd (pi_list (pv 0)) (fun _ _ _ _ _ _ _ hr => (pg_name (i := 2) sc_are_rows.nd rfl (Or.inl rfl))) (fun _ _ _ _ _ _ _ hr => pts_nil) (fun _ _ _ _ _ _ _ hr => (pe_call (ok_is_row T B) (hr.mono (by decide)) rfl T.g_is_row T.F_is_row.kp T.b_is_row .nil pass0 (pa_cons (pv 2) (pa_cons (pv 1) pa_nil))))))), ?_⟩
    have hql : qs.length = rs.length := Paired.length hqs
    have all_eq : ∀ b, (∀ j, (h : j < rs.length) → decide (rs[j].length = n) = true) ∧ b = true ∨ (∃ j, ∃ h : j < rs.length, decide (rs[j].length = n) = false) ∧ b = false → (rs.all fun r => decide (r.length = n)) = b := fun b hb => by
      rcases hb with ⟨h, rfl⟩ | ⟨⟨j, h, e⟩, rfl⟩
      · rw [List.all_eq_true]
        intro r hr
        obtain ⟨j, hj, e⟩ := List.getElem_of_mem hr
        rw [← e]; exact h j hj
      · rw [List.all_eq_false]
        exact ⟨rs[j], List.getElem_mem h, by rw [e]; simp⟩
    refine ⟨_, rfl, l, rfl, ⟨_, SqL.of hl⟩, hP2, ?_⟩
    refine q_turns (n := rs.length) (fun i => decide ((rs.getD i []).length = n)) (fun _ H4 => Same H H4) (Same.refl _) (fun H4 e => ⟨_, SqL.of (e _ _ hl), by rw [List.length_map]; omega⟩) (fun i H4 hi e => ⟨_, V.ref (qs[i]'(by omega)), SqL.of (e _ _ hl), by rw [List.getElem?_map, List.getElem?_eq_getElem (by omega)]; rfl⟩) (fun i v H4 H5 Qc hi e y hq' => ?_) (fun H4 e hf => ?_) (fun i H4 hi e hf hb => ?_)
    · obtain ⟨eH, ev⟩ := y
      subst eH
      have hiq : i < qs.length := by omega
      have ev := ev _ (SqL.of (e _ _ hl))
      rw [List.getElem?_map, List.getElem?_eq_getElem hiq] at ev
      cases ev
      have hra := paired_get hqs (List.getElem?_eq_getElem hiq) (List.getElem?_eq_getElem hi)
      refine ⟨rfl, _, rfl, _, rfl, qs[i], rs[i], n, rfl, e _ _ hra, hr1 _ (List.getElem_mem hi), e _ _ hP1, fun H6 s6 => ?_⟩
      have z := hq' H6 (e.trans s6)
      rw [List.getD_eq_getElem?_getD, List.getElem?_eq_getElem hi] at z
      exact z
    · have z := k H4 e
      rw [all_eq true (.inl ⟨fun j hj => by
        have z := hf j hj
        rw [List.getD_eq_getElem?_getD, List.getElem?_eq_getElem hj] at z
        exact z, rfl⟩)] at z
      exact z
    · have z := k H4 e
      rw [all_eq false (.inr ⟨⟨i, hi, by
        rw [List.getD_eq_getElem?_getD, List.getElem?_eq_getElem hi] at hf
        exact hf⟩, rfl⟩)] at z
      exact z
end
end L2.Pf
set_option maxHeartbeats 2000000
namespace L2.Pf
open PySem PySem.Spec PyProof.Rows L2.Ev L2.Tpd L2.Seti L2.Gq L2.Enf L2.Sett L2.Itr L2.Dls L2.Own L2.Ent
section
variable {P : Program} {w : World} {K : PySem.W.Frag} {mg : Str → Option Value} {base : Heap}
theorem ok_BadTables_init (T : TX K mg) : FnOk P w K mg base CX0 1 T.a_BadTables_init T.fd_BadTables_init p_BadTables_init (sp_ini1 T.x_BadTables.C "table") := by
  refine T.F_BadTables_init.ok sc_BadTables_init (fun vs H Q E h => ?_) (fun cdv A outer s H vs Q E hr h => ?_)
  · obtain ⟨a, v, rfl, _⟩ := h
    rfl
  · obtain ⟨a, v, rfl, ha, k⟩ := h
    refine ⟨_, (pss_one (ps_ost (pv 0) (pv 1))), ?_⟩
    exact ⟨_, rfl, _, rfl, a, T.x_BadTables.C, rfl, T.x_BadTables.oex, T.f_BadTables_init_table, .inl ⟨ha, fun dx n ne => k dx n ne⟩⟩
abbrev Dat := List (Str × List (List Int))
/-- tables as they are handed in, at d -/
def DatAt (H : Hp) (d : Addr) (dat : Dat) : Prop := ∃ kvs : List (Key × V), H d = some (.dK kvs) ∧ Paired (fun (kv : Key × V) (p : Str × List (List Int)) => kv.1 = .inr p.1 ∧ ∃ l, kv.2 = .ref l ∧ RowsAt H l p.2) kvs dat
def rowsOf (dat : Dat) (x : Str) : Option (List (List Int)) := (dat.find? fun p => decide (p.1 = x)).map (·.2)
def isBad (dat : Dat) (t : Str × List Str) : Bool := match rowsOf dat t.1 with
  | none => true
  | some rs => !rs.all fun r => decide (r.length = t.2.length)
def strangeOf (tabs : Tabs) (dat : Dat) : List Str := (dat.map (·.1)).filter fun x => decide (colsOf tabs x = none)
theorem paired_find {α : Type} {F : Key × V → α → Prop} {key : α → Str} (hk : ∀ kv p, F kv p → kv.1 = .inr (key p)) {kvs : List (Key × V)} {ps : List α} (h : Paired F kvs ps) (x : Str) :
    (valV kvs (.inr x) = none ∧ ps.find? (fun p => decide (key p = x)) = none) ∨ ∃ kv p, valV kvs (.inr x) = some kv.2 ∧ ps.find? (fun p => decide (key p = x)) = some p ∧ F kv p := by
  induction h with
  | nil => exact .inl ⟨rfl, rfl⟩
  | cons g t ih =>
    rename_i kv p r s
    have e := hk _ _ g
    by_cases hx : key p = x
    · refine .inr ⟨kv, p, valV_pos (by rw [e, hx]), ?_, g⟩
      rw [List.find?_cons, decide_eq_true hx]
    · have nx : ¬ kv.1 = Sum.inr x := fun z => hx (by rw [e] at z; exact Sum.inr.inj z)
      rw [valV_neg nx, List.find?_cons, decide_eq_false hx]
      exact ih
def DatF (H : Hp) (kv : Key × V) (p : Str × List (List Int)) : Prop := kv.1 = .inr p.1 ∧ ∃ l, kv.2 = .ref l ∧ RowsAt H l p.2
theorem dat_rows {H : Hp} {kvs : List (Key × V)} {dat : Dat} (h : Paired (DatF H) kvs dat) (x : Str) : (valV kvs (.inr x) = none ∧ rowsOf dat x = none) ∨ ∃ l rs, valV kvs (.inr x) = some (.ref l) ∧ rowsOf dat x = some rs ∧ RowsAt H l rs := by
  rcases paired_find (key := fun p : Str × List (List Int) => p.1) (fun _ _ z => z.1) h x with ⟨a, b⟩ | ⟨kv, p, a, b, _, l, e, hr⟩
  · exact .inl ⟨a, by unfold rowsOf; rw [b]; rfl⟩
  · exact .inr ⟨l, p.2, by rw [a, e], by unfold rowsOf; rw [b]; rfl, hr⟩
theorem cols_rows {H : Hp} {kvs : List (Key × V)} {tabs : Tabs} (h : ColsAt H kvs tabs) (x : Str) : (valV kvs (.inr x) = none ∧ colsOf tabs x = none) ∨ ∃ q cs, valV kvs (.inr x) = some (.ref q) ∧ colsOf tabs x = some cs ∧ TupN H q (cs.map V.str) := by
  rcases paired_find (key := fun p : Str × List Str => p.1) (fun _ _ z => z.1) h x with ⟨a, b⟩ | ⟨kv, p, a, b, _, q, e, hr⟩
  · exact .inl ⟨a, by unfold colsOf; rw [b]; rfl⟩
  · exact .inr ⟨q, p.2, by rw [a, e], by unfold colsOf; rw [b]; rfl, hr⟩
theorem cols_of : ∀ {tabs : Tabs}, (tabs.map (·.1)).Nodup → ∀ {t : Str × List Str}, t ∈ tabs → colsOf tabs t.1 = some t.2
  | [], _, t, h => by cases h
  | u :: r, nd, t, h => by
    rw [List.map_cons, List.nodup_cons] at nd
    unfold colsOf
    by_cases e : u.1 = t.1
    · rw [List.find?_cons, decide_eq_true e]
      rcases List.mem_cons.mp h with h | h
      · rw [h]; rfl
      · exact absurd (List.mem_map.mpr ⟨t, h, e.symm⟩) nd.1
    · rw [List.find?_cons, decide_eq_false e]
      rcases List.mem_cons.mp h with h | h
      · exact absurd (by rw [h]) e
      · exact cols_of nd.2 h
def sp_Schema_check (CS CB PR PS : Addr) : Sp := fun vs H Q E => ∃ (a d : Addr) (tabs : Tabs) (dat : Dat), vs = [.ref a, .ref d] ∧ SchemaAt CS H a tabs ∧ DatAt H d dat ∧ dat.length < 64 ∧ (∀ p ∈ dat, p.2.length ≤ 1000 ∧ ∀ r ∈ p.2, r.length ≤ 1000) ∧ H PR = some (TabX PR) ∧ H PS = some (TabX PS) ∧ tabs.length ≤ 1000 ∧ (tabs.map (·.1)).Nodup ∧
  (∀ H', tabs.find? (isBad dat) = none → strangeOf tabs dat = [] → Same H H' → Q .non H') ∧
  (∀ x H' dx, (∃ t, tabs.find? (isBad dat) = some t ∧ x = t.1) ∨ (tabs.find? (isBad dat) = none ∧ ∃ ys, ys.Perm (strangeOf tabs dat) ∧ sortedS ys = true ∧ ys.head? = some x) → Same H H' → H' dx = some (.xd [("table", .str x)]) → E (.ref CB) (some dx) H')
theorem ok_Schema_check (T : TX K mg) (B : TB T base) : FnOk P w K mg base (L2.CX P w) 6 T.a_Schema_check T.fd_Schema_check p_Schema_check (sp_Schema_check T.C_Schema T.x_BadTables.C T.P_is_row T.P_are_rows) := by
  refine Fun.okX T.F_Schema_check sc_Schema_check (fun vs H Q E h => ?_) (fun cdv A outer s H vs Q E hr h => ?_)
  · obtain ⟨a, d, tabs, dat, rfl, _⟩ := h
    rfl
  · obtain ⟨a, d, tabs, dat, rfl, hS, hD, hd64, hlen, hP1, hP2, htl, hnd, kq, ke⟩ := h
    refine ⟨_, (pss_cons (ps_for (passes_of rfl) rfl (pi_tup (pe_fld (pv 0) rfl)) (pg_name (i := 2) sc_Schema_check.nd rfl (Or.inl rfl)) (pss_one (ps_if (PW.pt (pw_or (pt_cmp (pc_dnotin (hu_of hr) (pv 2) (pv 1))) (pw_or1 (pt_not (pt_val (pe_call (ok_are_rows T B) (hr.mono (by decide)) rfl T.g_are_rows T.F_are_rows.kp T.b_are_rows .nil pass0 (pa_cons (pe_dget (hu_of hr) (pv 1) (pv 2) (fun _ _ => rfl)) (pa_cons (pe_callB call_len_seq (by rfl) T.z_len (by decide +kernel) (pa_cons (pe_dget (hu_of hr) (pe_fld (pv 0) rfl) (pv 2) (fun _ _ => rfl)) pa_nil)) pa_nil)))))))) (pss_one (ps_raise rfl (takes_of rfl rfl rfl rfl) (pmk_oex T.x_BadTables.oex T.i_BadTables_init T.t_BadTables_init (ok_BadTables_init T) (hr.mono (by decide)) T.b_BadTables_init .nil pass0 (by rfl) T.x_BadTables.g (pa_cons (pv 2) pa_nil)))) pss_nil)))
  (pss_cons (ps_set (i := 3) sc_Schema_check.nd rfl (Or.inl rfl) (pe_callB cr_sortedS (by rfl) T.z_sorted (by decide +kernel) (pa_cons (pe_lock (pe_lc (own := [("table", 2)]) (g := gName 2) (tt := _) rfl sc_Schema_check.nd (pi_keys (pv 1)) (blkOk_by (own := [("table", 2)]) (N := n_Schema_check) (sc := defScope s_Schema_check) (by decide +kernel)) (fun _ _ _ _ _ => (pg_name (i := 2) sc_Schema_check.nd rfl (Or.inl rfl))) (fun _ _ _ _ _ => pts_one (pt_cmp (pc_dnotin (hu_of hr) (pv 2) (pe_fldK (K := K) rfl (pv 0) rfl)))) (fun _ _ _ _ _ => (pv 2)))) pa_nil)))
  (pss_one (ps_if (pt_truth (pv 3) (by intro _; rfl)) (pss_one (ps_raise rfl (takes_of rfl rfl rfl rfl) (pmk_oex T.x_BadTables.oex T.i_BadTables_init T.t_BadTables_init (ok_BadTables_init T) (hr.mono (by decide)) T.b_BadTables_init .nil pass0 (by rfl) T.x_BadTables.g (pa_cons (pe_ix ix_list (pv 3) pe_int (fun _ _ => rfl)) pa_nil)))) pss_nil)))), ?_⟩
    obtain ⟨dx, dc, oc, kc, tt, a1, a2, a3, a4⟩ := hS
    obtain ⟨kvs, d1, d2⟩ := hD
    have d2 : Paired (DatF H) kvs dat := d2
    have hkl : kvs.length = dat.length := Paired.length d2
    have rowsS : ∀ {H' : Hp}, Same H H' → Paired (DatF H') kvs dat := fun s => Paired.mapP d2 fun kv p ⟨e1, l, e2, hr⟩ => ⟨e1, l, e2, rowsAt_same hr s⟩
    have dg : ∀ {H' : Hp} {x : Str} {r : Option V}, Same H H' → valV kvs (.inr x) = r → DGet H' d (.str x) r := fun {H' x r} s e => by
      have z := DGet.k (k := .inr x) (s _ _ d1)
      rw [e] at z; exact z
    have dgc : ∀ {H' : Hp} {x : Str} {r : Option V}, Same H H' → valV kc (.inr x) = r → DGet H' dc (.str x) r := fun {H' x r} s e => .inl ⟨kc, .inr x, .inr ⟨oc, s _ _ a2⟩, rfl, e.symm⟩
    refine ⟨_, rfl, a, T.C_Schema, dx, _, _, rfl, a1, T.cl_Schema, T.n_Schema_tables, rfl, tt, rfl, ⟨_, SqT.of a4⟩, ?_⟩
    refine for_tup (xs := tabs.map fun p => V.str p.1) (fun i σ H' => ∃ v2 : Option V, σ = [some (.ref a), some (.ref d), v2, none] ∧ Same H H' ∧ ∀ t ∈ tabs.take i, isBad dat t = false) ⟨none, rfl, Same.refl _, fun t ht => by cases ht⟩ (fun i σ H' _ ⟨_, _, s, _⟩ => SqT.of (s _ _ a4)) ?_ ?_
    · rintro i x σ H1 hx ⟨v2, rfl, s1, hb⟩
      have hi : i < tabs.length := by
        rcases Nat.lt_or_ge i tabs.length with h | h
        · exact h
        · rw [List.getElem?_eq_none (by rw [List.length_map]; exact h)] at hx; cases hx
      rw [List.getElem?_map, List.getElem?_eq_getElem hi] at hx
      cases hx
      have first : isBad dat tabs[i] = true → tabs.find? (isBad dat) = some tabs[i] := fun e => by
        rw [List.find?_eq_some_iff_getElem]
        refine ⟨e, i, hi, rfl, fun j hj => ?_⟩
        have z := hb tabs[j] (List.mem_take_iff_getElem.mpr ⟨j, by omega, rfl⟩)
        rw [z]; rfl
      have more : isBad dat tabs[i] = false → ∀ t ∈ tabs.take (i + 1), isBad dat t = false := fun e t ht => by
        rw [List.take_add_one, List.getElem?_eq_getElem hi] at ht
        rcases List.mem_append.mp ht with h | h
        · exact hb t h
        · have z := List.mem_singleton.mp h
          rw [z]; exact e
      rcases dat_rows (rowsS s1) tabs[i].1 with ⟨v0, r0⟩ | ⟨l, rs, v0, r0, hr0⟩
      · have bad : isBad dat tabs[i] = true := by unfold isBad; rw [r0]
        refine ⟨_, rfl, _, rfl, d, _, rfl, dg s1 v0, true, rfl, iteT (iteT ⟨_, rfl, raise_k (σ := []) fun dx2 H2 s2 e2 => ?_⟩)⟩
        exact ke _ _ _ (.inl ⟨_, first bad, rfl⟩) (s1.trans s2) e2
      · have hmem : tabs[i] ∈ tabs := List.getElem_mem hi
        rcases cols_rows (a3.keep fun q o xs e => s1 _ _ e) tabs[i].1 with ⟨w0, c0⟩ | ⟨q, cs, w0, c0, hq⟩
        · rw [cols_of hnd hmem] at c0; cases c0
        rw [cols_of hnd hmem] at c0
        cases c0
        have hrs : (∃ p ∈ dat, p.2 = rs) := by
          unfold rowsOf at r0
          obtain ⟨p, hp, e⟩ := Option.map_eq_some_iff.mp r0
          exact ⟨p, List.mem_of_find?_eq_some hp, e⟩
        obtain ⟨p0, hp0, rfl⟩ := hrs
        obtain ⟨l1, l2⟩ := hlen p0 hp0
        refine ⟨_, rfl, _, rfl, d, _, rfl, dg s1 v0, false, rfl, iteF ?_⟩
        refine ⟨_, rfl, _, rfl, d, .ref l, rfl, dg s1 v0, _, rfl, a, T.C_Schema, dx, _, _, rfl, s1 _ _ a1, T.cl_Schema, T.n_Schema__columns, rfl, _, rfl, dc, .ref q, rfl, dgc s1 w0, q, _, rfl, .inr hq.sq, ?_⟩
        refine ⟨l, p0.2, (tabs[i].2.map V.str).length, rfl, hr0, l1, l2, s1 _ _ hP1, s1 _ _ hP2, fun H2 s2 => ?_⟩
        have hb2 : (p0.2.all fun r => decide (r.length = (tabs[i].2.map V.str).length)) = !isBad dat tabs[i] := by
          unfold isBad
          rw [r0, List.length_map]
          simp
        rw [hb2]
        cases hbad : isBad dat tabs[i] with
        | true =>
          refine ⟨_, rfl, iteT ⟨_, rfl, raise_k (σ := []) fun dx2 H3 s3 e3 => ?_⟩⟩
          exact ke _ _ _ (.inl ⟨_, first hbad, rfl⟩) ((s1.trans s2).trans s3) e3
        | false => exact ⟨_, rfl, iteF ⟨_, rfl, s1.trans s2, more hbad⟩⟩
    · rintro σ H1 ⟨v2, rfl, s1, hb⟩
      rw [List.length_map, List.take_length] at hb
      have none1 : tabs.find? (isBad dat) = none := by
        rw [List.find?_eq_none]
        intro t ht z
        rw [hb t ht] at z; cases z
      refine ⟨d, _, s1 _ _ d1, trivial, fun od => ?_⟩
      have so : ∀ {b : Addr} {u : HO}, H b = some u → b ≠ d → (upd H1 d (.frz od (.dK kvs))) b = some u := fun {b u} e nb => by rw [upd_ne nb]; exact s1 _ _ e
      have ndc : dc ≠ d := fun z => by rw [z, d1] at a2; cases a2
      have nad : a ≠ d := fun z => by rw [z, d1] at a1; cases a1
      have od1 : (upd H1 d (.frz od (.dK kvs))) d = some (.frz od (.dK kvs)) := upd_same
      have oa := so a1 nad
      have oc2 := so a2 ndc
      have back : ∀ {H' : Hp}, Same (upd H1 d (.frz od (.dK kvs))) H' → Same H (upd H' d (.dK kvs)) := fun s b u e => by
        by_cases nb : b = d
        · rw [nb, upd_same, ← d1, ← nb, e]
        · rw [upd_ne nb]; exact s _ _ (so e nb)
      generalize upd H1 d (.frz od (.dK kvs)) = H2 at od1 oa oc2 back
      refine ⟨_, rfl, d, od, rfl, .inl ⟨kvs, od1, fun D hD => ?_⟩⟩
      refine lc_grow (n := kvs.length) hD (fun i acc H' => acc = (strangeOf tabs (dat.take i)).map V.str) (fun i acc H' o hp _ => hp) (fun _ _ => rfl) (fun i H' hi s => ⟨s _ _ od1, hi⟩) (fun H' s => ⟨s _ _ od1, Nat.le_refl _⟩) (small1000 (by omega)) (fun i acc H3 F G hF hG hi s3 hacc hp x Hv yl => ?_) (fun acc H3 s3 hacc hp => ?_)
      · obtain ⟨rfl, k1, v1, e1, rfl⟩ := yl
        have hid : i < dat.length := by omega
        have hk : k1 = .inr dat[i].1 := by
          have z := paired_get d2 e1 (List.getElem?_eq_getElem hid)
          exact z.1
        subst hk
        have step : strangeOf tabs (dat.take (i + 1)) = strangeOf tabs (dat.take i) ++ (if colsOf tabs dat[i].1 = none then [dat[i].1] else []) := by
          unfold strangeOf
          rw [List.take_add_one, List.getElem?_eq_getElem hid, List.map_append, List.filter_append]
          congr 1
          show List.filter _ [dat[i].1] = _
          rw [List.filter_cons, List.filter_nil]
          by_cases z : colsOf tabs dat[i].1 = none
          · rw [if_pos z, decide_eq_true z]; rfl
          · rw [if_neg z, decide_eq_false z]; rfl
        refine ⟨rfl, ?_⟩
        have dgc2 : ∀ {r : Option V}, valV kc (.inr dat[i].1) = r → DGet Hv dc (.str dat[i].1) r := fun {r} e => .inl ⟨kc, .inr dat[i].1, .inr ⟨oc, s3 _ _ oc2⟩, rfl, e.symm⟩
        rcases cols_rows a3 dat[i].1 with ⟨w0, c0⟩ | ⟨q, cs, w0, c0, _⟩
        · refine ⟨_, rfl, _, rfl, a, T.C_Schema, dx, _, _, rfl, s3 _ _ oa, T.cl_Schema, T.n_Schema__columns, rfl, dc, _, rfl, dgc2 w0, true, rfl, iteT ⟨_, rfl, hF _ _ (Same.refl _) ?_⟩⟩
          rw [step, if_pos c0, List.map_append, hp]; rfl
        · refine ⟨_, rfl, _, rfl, a, T.C_Schema, dx, _, _, rfl, s3 _ _ oa, T.cl_Schema, T.n_Schema__columns, rfl, dc, _, rfl, dgc2 w0, false, rfl, iteF (hG _ (Same.refl _) ?_)⟩
          rw [step, if_neg (by rw [c0]; simp), List.append_nil, hp]
      · rw [hkl, List.take_length] at hp
        subst hp
        have nDd : D ≠ d := fun z => by rw [z, od1] at hD; cases hD
        refine ⟨s3 _ _ od1, ?_⟩
        have sB := back s3
        have eD : (upd H3 d (.dK kvs)) D = some (.lst ((strangeOf tabs dat).map V.str)) := by rw [upd_ne nDd]; exact hacc
        generalize upd H3 d (.dK kvs) = H4 at sB eD
        have hsl : (strangeOf tabs dat).length ≤ dat.length := by
          unfold strangeOf
          exact Nat.le_trans (List.length_filter_le _ _) (by rw [List.length_map]; exact Nat.le_refl _)
        refine ⟨D, strangeOf tabs dat, rfl, SqL.of eD, by omega, fun ys p hys hsort np => ?_⟩
        have s5 : Same H (upd H4 p (.lst (ys.map V.str))) := sB.trans (Same.new (Same.refl _) np)
        have e5 : (upd H4 p (.lst (ys.map V.str))) p = some (.lst (ys.map V.str)) := upd_same
        generalize upd H4 p (.lst (ys.map V.str)) = H5 at s5 e5
        refine ⟨_, rfl, !(ys.map V.str).isEmpty, .inl ⟨_, SqL.of e5, rfl⟩, ?_⟩
        cases ys with
        | nil =>
          refine iteF (kq _ none1 ?_ s5)
          exact List.perm_nil.mp hys.symm |>.symm ▸ rfl
        | cons x r =>
          refine iteT ⟨_, rfl, p, _, 0, _, rfl, rfl, SqL.of e5, atI_nat (k := 0) rfl, raise_k (σ := []) fun dx2 H6 s6 e6 => ?_⟩
          exact ke _ _ _ (.inr ⟨none1, _, hys, hsort, rfl⟩) (s5.trans s6) e6
end
end L2.Pf
set_option maxHeartbeats 2000000
namespace L2.Pf
open PySem PySem.Spec PyProof.Rows L2.Ev L2.Tpd L2.Seti L2.Gq L2.Enf L2.Sett L2.Itr L2.Dls L2.Own L2.Ent
section
variable {P : Program} {w : World} {K : PySem.W.Frag} {mg : Str → Option Value} {base : Heap}
def colVals (rs : List (List Int)) (j : Nat) : List Int := rs.map fun r => r.getD j 0
def sp_column_values (CS : Addr) : Sp := fun vs H Q _ => ∃ (a d q : Addr) (tabs : Tabs) (dat : Dat) (t c : Str) (cs : List Str) (rs : List (List Int)), vs = [.ref a, .ref d, .ref q] ∧ SchemaAt CS H a tabs ∧ DatAt H d dat ∧ H q = some (.tup [.str t, .str c]) ∧
  colsOf tabs t = some cs ∧ c ∈ cs ∧ rowsOf dat t = some rs ∧ (∀ r ∈ rs, r.length = cs.length) ∧ rs.length ≤ 1000 ∧ ∀ p H', H p = none → Same H H' → H' p = some (.lst ((colVals rs (cs.idxOf c)).map V.int)) → Q (.ref p) H'
theorem ok_column_values (T : TX K mg) (B : TB T base) : FnOk P w K mg base CX0 4 T.a_column_values T.fd_column_values p_column_values (sp_column_values T.C_Schema) := by
  refine T.F_column_values.ok sc_column_values (fun vs H Q E h => ?_) (fun cdv A outer s H vs Q E hr h => ?_)
  · obtain ⟨a, d, q, tabs, dat, t, c, cs, rs, rfl, _⟩ := h
    rfl
  · obtain ⟨a, d, q, tabs, dat, t, c, cs, rs, rfl, hS, hD, hq, hc, hcm, hr0, hrl, hrn, k⟩ := h
    refine ⟨_, (pss_cons (ps_asg (pv 2) (pg_tup rfl (pgs_cons (pg_name (i := 3) sc_column_values.nd rfl (Or.inl rfl)) (pgs_cons (pg_name (i := 4) sc_column_values.nd rfl (Or.inl rfl)) pgs_nil))))
  (pss_cons (ps_set (i := 5) sc_column_values.nd rfl (Or.inr rfl) (pe_bmT PySem.F.plainAttrs_tuple PySem.F.slot_tuple_index PySem.F.type_tuple_index mt_tup_index (pe_meth (pv 0) T.cl_Schema T.m_Schema_columns (ok_Schema_columns T B) (hr.mono (by decide)) T.b_Schema_columns .nil pass0 (pa_cons (pv 3) pa_nil)) (pa_cons (pv 4) pa_nil)))
  (pss_one (ps_ret (pe_lc (own := [("row", 6)]) (g := gName 6) (tt := tYes) rfl sc_column_values.nd (pi_list (pe_dget (hu_of hr) (pv 1) (pv 3) (fun _ _ => rfl))) (blkOk_by (own := [("row", 6)]) (N := n_column_values) (sc := defScope s_column_values) (by decide +kernel)) (fun _ _ _ _ _ => (pg_name (i := 6) sc_column_values.nd rfl (Or.inl rfl))) (fun _ _ _ _ _ => pts_nil) (fun _ _ _ _ _ => (pe_ix (ix_tupK (K := K)) (pv 6) (pv 5) (fun _ _ => rfl)))))))), ?_⟩
    have hS2 := hS
    obtain ⟨dx, dc, oc, kc, tt, a1, a2, a3, a4⟩ := hS2
    obtain ⟨kvs, d1, d2⟩ := hD
    have d2 : Paired (DatF H) kvs dat := d2
    rcases dat_rows d2 t with ⟨v0, r0⟩ | ⟨l, rs', v0, r0, qs, hl, hqs⟩
    · rw [hr0] at r0; cases r0
    rw [hr0] at r0
    cases r0
    have hql : qs.length = rs.length := Paired.length hqs
    have dg : DGet H d (.str t) (some (.ref l)) := by
      have z := DGet.k (k := .inr t) d1
      rw [v0] at z; exact z
    have hix : cs.idxOf c < cs.length := List.idxOf_lt_length_of_mem hcm
    refine ⟨_, rfl, q, _, rfl, SqT.of hq, rfl, _, _, rfl, _, _, rfl, rfl, ?_⟩
    refine ⟨_, rfl, a, dx, _, rfl, a1, rfl, _, rfl, a, t, tabs, cs, rfl, hS, cols_find hc, fun q2 hq2 => ⟨⟨q2, _, rfl, hq2⟩, _, rfl, q2, cs, c, cs.idxOf c, rfl, rfl, hq2.sq, ?_, ?_, ?_⟩⟩
    · rw [List.getElem?_eq_getElem hix, List.getElem_idxOf hix]
    · intro m hm e
      obtain ⟨hm2, e2⟩ := List.getElem?_eq_some_iff.mp e
      have z := List.not_of_lt_findIdx (p := (· == c)) (xs := cs) hm
      rw [e2] at z
      simp at z
    refine ⟨_, rfl, _, rfl, d, .ref l, rfl, dg, l, rfl, ⟨_, SqL.of hl⟩, fun D hD => ?_⟩
    refine lc_grow (n := rs.length) hD (fun i acc H' => acc = (colVals (rs.take i) (cs.idxOf c)).map V.int) (fun i acc H' o hp _ => hp) (fun _ _ => rfl)
      (fun i H' hi s1 => ⟨_, V.ref (qs[i]'(by omega)), SqL.of (s1 _ _ hl), by rw [List.getElem?_map, List.getElem?_eq_getElem (by omega)]; rfl⟩) (fun H' s1 => ⟨_, SqL.of (s1 _ _ hl), by rw [List.length_map]; omega⟩) (small1000 (by omega)) (fun i acc H' F G hF hG' hi s1 hacc hp v H2 yl => ?_) (fun acc H' s1 hacc hp => ?_)
    · obtain ⟨eH, ev⟩ := yl
      subst eH
      have hiq : i < qs.length := by omega
      have ev := ev _ (SqL.of (s1 _ _ hl))
      rw [List.getElem?_map, List.getElem?_eq_getElem hiq] at ev
      cases ev
      have hra := paired_get hqs (List.getElem?_eq_getElem hiq) (List.getElem?_eq_getElem hi)
      have hri : cs.idxOf c < rs[i].length := by rw [hrl _ (List.getElem_mem hi)]; exact hix
      refine ⟨rfl, _, rfl, _, rfl, qs[i], _, ((cs.idxOf c : Nat) : Int), V.int rs[i][cs.idxOf c], rfl, rfl, SqT.of (s1 _ _ hra), atI_nat (by rw [List.getElem?_map, List.getElem?_eq_getElem hri]; rfl), hF _ _ (Same.refl _) ?_⟩
      rw [hp, List.take_add_one, List.getElem?_eq_getElem hi]
      unfold colVals
      rw [List.map_append, List.map_append]
      show _ = _ ++ [V.int (rs[i].getD (cs.idxOf c) 0)]
      rw [List.getD_eq_getElem?_getD, List.getElem?_eq_getElem hri]; rfl
    · rw [List.take_length] at hp
      subst hp
      exact k D H' hD s1 hacc
def sp_are_among (K : PySem.W.Frag) : Sp := fun vs H Q _ => ∃ (a b : Addr) (ns ms : List Int), vs = [.ref a, .ref b] ∧ SqL K H a (ns.map V.int) ∧ SqL K H b (ms.map V.int) ∧ ms.length ≤ 1000 ∧ ∀ H', Same H H' → Q (.bl (ns.all fun n => decide (n ∈ ms))) H'
theorem ok_are_among (T : TX K mg) (B : TB T base) : FnOk P w K mg base CX0 1 T.a_are_among T.fd_are_among p_are_among (sp_are_among K) := by
  refine T.F_are_among.ok sc_are_among (fun vs H Q E h => ?_) (fun cdv A outer s H vs Q E hr h => ?_)
  · obtain ⟨a, b, ns, ms, rfl, _⟩ := h
    rfl
  · obtain ⟨a, b, ns, ms, rfl, ha, hb, hl, k⟩ := h
    refine ⟨_, (pss_cons (ps_set (i := 2) sc_are_among.nd rfl (Or.inl rfl) (pe_callTy set_ofI (by rfl) T.z_set (by decide +kernel) (pa_cons (pv 1) pa_nil)))
  (pss_cons (ps_for PassesOwn.never rfl (pi_list (pv 0)) (pg_name (i := 3) sc_are_among.nd rfl (Or.inl rfl)) (pss_one (ps_if (pt_cmpR op_notInI (pv 3) (pv 2) (by rfl)) (pss_one (ps_ret pe_bl)) pss_nil)))
  (pss_one (ps_ret pe_bl)))), ?_⟩
    refine ⟨_, rfl, b, ms, rfl, hb, by unfold scanBound; omega, fun p H1 np s1 ep => ?_⟩
    refine ⟨_, rfl, a, rfl, ⟨_, sqL_same ha s1⟩, ?_⟩
    refine for_list (xs := ns.map V.int) (fun i σ H' => ∃ v3 : Option V, σ = [some (.ref a), some (.ref b), some (.ref p), v3] ∧ Same H1 H' ∧ ∀ n ∈ ns.take i, n ∈ ms) ⟨none, rfl, Same.refl _, fun n hn => by cases hn⟩ (fun i σ H' _ ⟨_, _, s, _⟩ => sqL_same ha (s1.trans s)) ?_ ?_
    · rintro i x σ H2 hx ⟨v3, rfl, s2, hin⟩
      have hi : i < ns.length := by
        rcases Nat.lt_or_ge i ns.length with h | h
        · exact h
        · rw [List.getElem?_eq_none (by rw [List.length_map]; exact h)] at hx; cases hx
      rw [List.getElem?_map, List.getElem?_eq_getElem hi] at hx
      cases hx
      by_cases hm : ns[i] ∈ ms
      · refine ⟨_, rfl, _, rfl, ns[i], p, _, rfl, rfl, s2 _ _ ep, false, by rw [if_pos rfl, decide_eq_true hm]; rfl, iteF ⟨_, rfl, s2, fun n hn => ?_⟩⟩
        rw [List.take_add_one, List.getElem?_eq_getElem hi] at hn
        rcases List.mem_append.mp hn with h | h
        · exact hin n h
        · have z := List.mem_singleton.mp h
          rw [z]; exact hm
      · refine ⟨_, rfl, _, rfl, ns[i], p, _, rfl, rfl, s2 _ _ ep, true, by rw [if_pos rfl, decide_eq_false hm]; rfl, iteT ?_⟩
        have z := k H2 (s1.trans s2)
        rw [show (ns.all fun n => decide (n ∈ ms)) = false from List.all_eq_false.mpr ⟨ns[i], List.getElem_mem hi, by rw [decide_eq_false hm]; exact Bool.false_ne_true⟩] at z
        exact z
    · rintro σ H2 ⟨v3, rfl, s2, hin⟩
      rw [List.length_map, List.take_length] at hin
      have z := k H2 (s1.trans s2)
      rw [show (ns.all fun n => decide (n ∈ ms)) = true from List.all_eq_true.mpr fun n hn => decide_eq_true (hin n hn)] at z
      exact z
end
end L2.Pf
set_option maxHeartbeats 2000000
namespace L2.Pf
open PySem PySem.Spec PyProof.Rows L2.Ev L2.Tpd L2.Seti L2.Gq L2.Enf L2.Sett L2.Itr L2.Dls L2.Own L2.Ent
section
variable {P : Program} {w : World} {K : PySem.W.Frag} {mg : Str → Option Value} {base : Heap}
def rowsD (dat : Dat) (t : Str) : List (List Int) := (rowsOf dat t).getD []
def valsD (tabs : Tabs) (dat : Dat) (p : Place) : List Int := colVals (rowsD dat p.1) (((colsOf tabs p.1).getD []).idxOf (p.2.getD Str.empty))
/-- whether tables keep a fact -/
def keepsB (tabs : Tabs) (dat : Dat) (f : Fact) : Bool :=
  if f.1 = ("single" : Str) then decide ((rowsD dat f.2.1.1).length ≤ 1)
  else if f.1 = ("filled" : Str) then decide (1 ≤ (rowsD dat f.2.1.1).length)
  else if f.1 = ("unique" : Str) then decide ((valsD tabs dat f.2.1).Nodup)
  else if f.1 = ("sorted" : Str) then decide ((valsD tabs dat f.2.1).Pairwise (· ≤ ·))
  else (valsD tabs dat f.2.1).all fun n => decide (n ∈ valsD tabs dat (f.2.2.getD (Str.empty, none)))
/-- a column that is there -/
def IsCol (tabs : Tabs) (p : Place) : Prop := ∃ c cs, p.2 = some c ∧ colsOf tabs p.1 = some cs ∧ c ∈ cs
def IsTab (tabs : Tabs) (p : Place) : Prop := ∃ cs, p.2 = none ∧ colsOf tabs p.1 = some cs
/-- a fact over these tables -/
def FactOk (tabs : Tabs) (f : Fact) : Prop :=
  ((f.1 = ("single" : Str) ∨ f.1 = ("filled" : Str)) ∧ IsTab tabs f.2.1 ∧ f.2.2 = none) ∨ ((f.1 = ("unique" : Str) ∨ f.1 = ("sorted" : Str)) ∧ IsCol tabs f.2.1 ∧ f.2.2 = none) ∨
  (f.1 = ("found" : Str) ∧ IsCol tabs f.2.1 ∧ ∃ g, f.2.2 = some g ∧ IsCol tabs g)
/-- right tables -/
def DatOk (tabs : Tabs) (dat : Dat) : Prop := ∀ t ∈ tabs, ∃ rs, rowsOf dat t.1 = some rs ∧ (∀ r ∈ rs, r.length = t.2.length) ∧ rs.length < 64
theorem DatOk.col {tabs : Tabs} {dat : Dat} (h : DatOk tabs dat) {t : Str} {cs : List Str} (e : colsOf tabs t = some cs) : ∃ rs, rowsOf dat t = some rs ∧ (∀ r ∈ rs, r.length = cs.length) ∧ rs.length < 64 := by
  unfold colsOf at e
  obtain ⟨p, hp, e2⟩ := Option.map_eq_some_iff.mp e
  have hm := List.mem_of_find?_eq_some hp
  have ht : p.1 = t := by
    have z := List.find?_some hp
    simpa using z
  obtain ⟨rs, a, b, c⟩ := h p hm
  rw [ht] at a
  rw [e2] at b
  exact ⟨rs, a, b, c⟩
def sp_keeps (CS : Addr) : Sp := fun vs H Q _ => ∃ (a d q : Addr) (vp vg : V) (tabs : Tabs) (dat : Dat) (f : Fact), vs = [.ref a, .ref d, .ref q] ∧ SchemaAt CS H a tabs ∧ DatAt H d dat ∧ DatOk tabs dat ∧ H q = some (.tup [.str f.1, vp, vg]) ∧ PlV H (some f.2.1) vp ∧ PlV H f.2.2 vg ∧ FactOk tabs f ∧
  ∀ H', Same H H' → Q (.bl (keepsB tabs dat f)) H'
theorem ok_keeps (T : TX K mg) (B : TB T base) : FnOk P w K mg base CX0 5 T.a_keeps T.fd_keeps p_keeps (sp_keeps T.C_Schema) := by
  refine T.F_keeps.ok sc_keeps (fun vs H Q E h => ?_) (fun cdv A outer s H vs Q E hr h => ?_)
  · obtain ⟨a, d, q, vp, vg, tabs, dat, f, rfl, _⟩ := h
    rfl
  · obtain ⟨a, d, q, vp, vg, tabs, dat, f, rfl, hS, hD, hO, hq, hp, hg, hF, k⟩ := h
    refine ⟨_, (pss_cons (ps_asg (pv 2) (pg_tup rfl (pgs_cons (pg_name (i := 3) sc_keeps.nd rfl (Or.inl rfl)) (pgs_cons (pg_name (i := 4) sc_keeps.nd rfl (Or.inl rfl)) (pgs_cons (pg_name (i := 5) sc_keeps.nd rfl (Or.inl rfl)) pgs_nil)))))
  (pss_cons (ps_if (pt_cmpR op_eq (pv 3) pe_str (nomark _)) (pss_one (ps_ret (pe_cmpR op_le (pe_callB call_len_seq (by rfl) T.z_len (by decide +kernel) (pa_cons (pe_dget (hu_of hr) (pv 1) (pe_ix ix_tup (pv 4) pe_int (fun _ _ => rfl)) (fun _ _ => rfl)) pa_nil)) pe_int (nomark _)))) pss_nil)
  (pss_cons (ps_if (pt_cmpR op_eq (pv 3) pe_str (nomark _)) (pss_one (ps_ret (pe_cmpR op_ge (pe_callB call_len_seq (by rfl) T.z_len (by decide +kernel) (pa_cons (pe_dget (hu_of hr) (pv 1) (pe_ix ix_tup (pv 4) pe_int (fun _ _ => rfl)) (fun _ _ => rfl)) pa_nil)) pe_int (nomark _)))) pss_nil)
  (pss_cons (ps_set (i := 6) sc_keeps.nd rfl (Or.inl rfl) (pe_call (ok_column_values T B) (hr.mono (by decide)) rfl T.g_column_values T.F_column_values.kp T.b_column_values .nil pass0 (pa_cons (pv 0) (pa_cons (pv 1) (pa_cons (pv 4) pa_nil)))))
  (pss_cons (ps_if (pt_cmpR op_eq (pv 3) pe_str (nomark _)) (pss_one (ps_ret (pe_cmpR op_eq (pe_lenSetN rfl (by rfl) T.z_len (by rfl) T.z_set (pv 6)) (pe_callB call_len_seq (by rfl) T.z_len (by decide +kernel) (pa_cons (pv 6) pa_nil)) (nomark _)))) pss_nil)
  (pss_cons (ps_if (pt_cmpR op_eq (pv 3) pe_str (nomark _)) (pss_one (ps_ret (pe_cmpR (op_eqD hr.units) (pv 6) (pe_callB cr_sorted (by rfl) T.z_sorted (by decide +kernel) (pa_cons (pv 6) pa_nil)) (nomark _)))) pss_nil)
  (pss_one (ps_ret (pe_call (ok_are_among T B) (hr.mono (by decide)) rfl T.g_are_among T.F_are_among.kp T.b_are_among .nil pass0 (pa_cons (pv 6) (pa_cons (pe_call (ok_column_values T B) (hr.mono (by decide)) rfl T.g_column_values T.F_column_values.kp T.b_column_values .nil pass0 (pa_cons (pv 0) (pa_cons (pv 1) (pa_cons (pv 5) pa_nil)))) pa_nil))))))))))), ?_⟩
    obtain ⟨wd, pl, gl⟩ := f
    obtain ⟨pt, pc⟩ := pl
    have eqs : ∀ (x y : Str), decide (V.str x = V.str y) = decide (x = y) := fun x y => by
      by_cases h : x = y
      · rw [decide_eq_true h, decide_eq_true (by rw [h])]
      · rw [decide_eq_false h, decide_eq_false (fun z => h (by cases z; rfl))]
    have dg : ∀ {H' : Hp} {x : Str} {cs : List Str}, Same H H' → colsOf tabs x = some cs → ∃ (l : Addr) (rs : List (List Int)) (qs : List Addr), DGet H' d (.str x) (some (.ref l)) ∧ rowsD dat x = rs ∧ rs.length < 64 ∧ H' l = some (.lst (qs.map V.ref)) ∧ qs.length = rs.length := fun {H' x cs} s e => by
      obtain ⟨rs, r0, r1, r2⟩ := hO.col e
      obtain ⟨kvs, d1, d2⟩ := hD
      have d2 : Paired (DatF H) kvs dat := d2
      rcases dat_rows d2 x with ⟨v0, z⟩ | ⟨l, rs', v0, z, qs, hl, hqs⟩
      · rw [r0] at z; cases z
      rw [r0] at z
      cases z
      refine ⟨l, rs, qs, ?_, by unfold rowsD; rw [r0]; rfl, r2, s _ _ hl, Paired.length hqs⟩
      have z := DGet.k (k := .inr x) (s _ _ d1)
      rw [v0] at z; exact z
    obtain ⟨qp, rfl, hqp⟩ := hp
    have hqp : H qp = some (.tup [.str pt, colV pc]) := hqp
    refine ⟨_, rfl, q, _, rfl, SqT.of hq, rfl, _, _, rfl, _, _, rfl, _, _, rfl, rfl, ?_⟩
    have cpre : ∀ {p : Place}, IsCol tabs p → ∃ (c : Str) (cs : List Str) (rs : List (List Int)), p.2 = some c ∧ colsOf tabs p.1 = some cs ∧ c ∈ cs ∧ rowsOf dat p.1 = some rs ∧ (∀ r ∈ rs, r.length = cs.length) ∧ rs.length < 64 ∧ valsD tabs dat p = colVals rs (cs.idxOf c) := fun {p} ⟨c, cs, e1, e2, e3⟩ => by
      obtain ⟨rs, r0, r1, r2⟩ := hO.col e2
      refine ⟨c, cs, rs, e1, e2, e3, r0, r1, r2, ?_⟩
      unfold valsD rowsD
      rw [r0, e2, e1]; rfl
    have datS : ∀ {H' : Hp}, Same H H' → DatAt H' d dat := fun {H'} s => by
      obtain ⟨kvs, d1, d2⟩ := hD
      exact ⟨kvs, s _ _ d1, Paired.mapP d2 fun kv p ⟨z1, l, z2, hr⟩ => ⟨z1, l, z2, rowsAt_same hr s⟩⟩
    -- single
    by_cases c1 : wd = ("single" : Str)
    · have ht : IsTab tabs (pt, pc) := by
        rcases hF with ⟨_, h, _⟩ | ⟨h, _⟩ | ⟨h, _⟩
        · exact h
        · exfalso; rcases h with h | h <;> (rw [show wd = _ from h] at c1; exact absurd c1 (by decide +kernel))
        · exfalso; rw [show wd = _ from h] at c1; exact absurd c1 (by decide +kernel)
      obtain ⟨cs, _, e2⟩ := ht
      obtain ⟨l, rs, qs, g1, g2, g3, g4, g5⟩ := dg (Same.refl H) e2
      refine ⟨_, rfl, rfl, _, rfl, ?_⟩
      rw [eqs, decide_eq_true c1]
      refine iteT ⟨_, rfl, _, rfl, qp, _, 0, _, rfl, rfl, SqT.of hqp, atI_nat (k := 0) rfl, d, .ref l, rfl, g1, l, _, rfl, .inl (SqL.of g4), _, 1, rfl, rfl, ?_⟩
      have z := k H (Same.refl _)
      unfold keepsB at z
      rw [if_pos c1, show rowsD dat (wd, (pt, pc), gl).2.1.1 = rs from g2] at z
      have e : decide (((qs.map V.ref).length : Int) ≤ 1) = decide (rs.length ≤ 1) := by rw [List.length_map, g5]; exact decide_eq_decide.mpr ⟨fun h => by omega, fun h => by omega⟩
      have z2 : Q (.bl (decide (((qs.map V.ref).length : Int) ≤ 1))) H := by rw [e]; exact z
      exact z2
    by_cases c2 : wd = ("filled" : Str)
    · have ht : IsTab tabs (pt, pc) := by
        rcases hF with ⟨_, h, _⟩ | ⟨h, _⟩ | ⟨h, _⟩
        · exact h
        · exfalso; rcases h with h | h <;> (rw [show wd = _ from h] at c2; exact absurd c2 (by decide +kernel))
        · exfalso; rw [show wd = _ from h] at c2; exact absurd c2 (by decide +kernel)
      obtain ⟨cs, _, e2⟩ := ht
      obtain ⟨l, rs, qs, g1, g2, g3, g4, g5⟩ := dg (Same.refl H) e2
      refine ⟨_, rfl, rfl, _, rfl, ?_⟩
      rw [eqs, decide_eq_false c1]
      refine iteF ⟨_, rfl, rfl, _, rfl, ?_⟩
      rw [eqs, decide_eq_true c2]
      refine iteT ⟨_, rfl, _, rfl, qp, _, 0, _, rfl, rfl, SqT.of hqp, atI_nat (k := 0) rfl, d, .ref l, rfl, g1, l, _, rfl, .inl (SqL.of g4), _, 1, rfl, rfl, ?_⟩
      have z := k H (Same.refl _)
      unfold keepsB at z
      rw [if_neg c1, if_pos c2, show rowsD dat (wd, (pt, pc), gl).2.1.1 = rs from g2] at z
      have e : decide ((1 : Int) ≤ ((qs.map V.ref).length : Int)) = decide (1 ≤ rs.length) := by rw [List.length_map, g5]; exact decide_eq_decide.mpr ⟨fun h => by omega, fun h => by omega⟩
      have z2 : Q (.bl (decide ((1 : Int) ≤ ((qs.map V.ref).length : Int)))) H := by rw [e]; exact z
      exact z2
    have hc : IsCol tabs (pt, pc) := by
      rcases hF with ⟨h, _⟩ | ⟨_, h, _⟩ | ⟨_, h, _⟩
      · exact (h.elim c1 c2).elim
      · exact h
      · exact h
    refine ⟨_, rfl, rfl, _, rfl, ?_⟩
    rw [eqs, decide_eq_false c1]
    refine iteF ⟨_, rfl, rfl, _, rfl, ?_⟩
    rw [eqs, decide_eq_false c2]
    obtain ⟨c, cs, rs, p1, p2, p3, p4, p5, p6, p7⟩ := cpre hc
    have p1 : pc = some c := p1
    subst p1
    refine iteF ⟨_, rfl, _, rfl, _, rfl, a, d, qp, tabs, dat, pt, c, cs, rs, rfl, hS, hD, hqp, p2, p3, p4, p5, by omega, fun r H1 nr s1 er => ?_⟩
    rw [← p7] at er
    have hr64 : (valsD tabs dat (pt, some c)).length < 64 := by rw [p7]; unfold colVals; rw [List.length_map]; exact p6
    refine ⟨_, rfl, rfl, _, rfl, ?_⟩
    rw [eqs]
    have z1 := fun H' s => k H' s
    by_cases c3 : wd = ("unique" : Str)
    · rw [decide_eq_true c3]
      refine iteT ⟨_, rfl, r, _, rfl, SqL.of er, by unfold scanBound; omega, _, rfl, r, _, rfl, .inl (SqL.of er), rfl, ?_⟩
      have z := k H1 s1
      unfold keepsB at z
      rw [if_neg c1, if_neg c2, if_pos c3] at z
      have e : decide (V.int ((dist (valsD tabs dat (pt, some c))).length : Nat) = V.int (((valsD tabs dat (pt, some c)).map V.int).length : Nat)) = decide ((valsD tabs dat (pt, some c)).Nodup) := by
        rw [List.length_map]
        refine decide_eq_decide.mpr ⟨fun h => (dist_len _).mp (by have z2 := V.int.inj h; omega), fun h => by rw [(dist_len _).mpr h]⟩
      rw [e]; exact z
    rw [decide_eq_false c3]
    refine iteF ⟨_, rfl, rfl, _, rfl, ?_⟩
    rw [eqs]
    by_cases c4 : wd = ("sorted" : Str)
    · rw [decide_eq_true c4]
      refine iteT ⟨_, rfl, _, rfl, r, _, rfl, SqL.of er, hr64, fun ns' pp hperm hsrt npp => ?_⟩
      have s2 : Same H1 (upd H1 pp (.lst (ns'.map V.int))) := Same.new (Same.refl _) npp
      refine ⟨_, _, dp_ints (SqL.of (s2 _ _ er)), dp_ints (SqL.of upd_same), shaped_ints _, shaped_ints _, ?_⟩
      rw [eqv_ints, sorted_eq hperm hsrt]
      have z := k _ (s1.trans s2)
      unfold keepsB at z
      rw [if_neg c1, if_neg c2, if_neg c3, if_pos c4] at z
      exact z
    rw [decide_eq_false c4]
    have hf : ∃ g, gl = some g ∧ IsCol tabs g := by
      rcases hF with ⟨h, _⟩ | ⟨h, _⟩ | ⟨_, _, g, h1, h2⟩
      · exact (h.elim c1 c2).elim
      · exact (h.elim c3 c4).elim
      · exact ⟨g, h1, h2⟩
    obtain ⟨g, rfl, hgc⟩ := hf
    obtain ⟨qg, rfl, hqg⟩ := hg
    obtain ⟨c', cs', rs', g1, g2, g3, g4, g5, g6, g7⟩ := cpre hgc
    have hqg : H qg = some (.tup [.str g.1, colV g.2]) := hqg
    rw [g1] at hqg
    refine iteF ⟨_, rfl, _, rfl, _, rfl, _, rfl, a, d, qg, tabs, dat, g.1, c', cs', rs', rfl, hS.same s1, datS s1, s1 _ _ hqg, g2, g3, g4, g5, by omega, fun r2 H2 nr2 s2 er2 => ?_⟩
    rw [← g7] at er2
    have hr264 : (valsD tabs dat g).length < 64 := by rw [g7]; unfold colVals; rw [List.length_map]; exact g6
    refine ⟨r, r2, _, _, rfl, SqL.of (s2 _ _ er), SqL.of er2, by omega, fun H3 s3 => ?_⟩
    have z := k H3 ((s1.trans s2).trans s3)
    unfold keepsB at z
    rw [if_neg c1, if_neg c2, if_neg c3, if_neg c4] at z
    exact z
end
end L2.Pf
set_option maxHeartbeats 2000000
namespace L2.Pf
open PySem PySem.Spec PyProof.Rows L2.Ev L2.Tpd L2.Seti L2.Gq L2.Enf L2.Sett L2.Itr L2.Dls L2.Own L2.Ent
section
variable {P : Program} {w : World} {K : PySem.W.Frag} {mg : Str → Option Value} {base : Heap}
theorem mem_inV {x : Str} : ∀ {ys : List Str}, inV (.str x) (ys.map V.str) = true ↔ x ∈ ys
  | [] => ⟨fun z => (by have z2 : false = true := z; cases z2), fun z => absurd z List.not_mem_nil⟩
  | y :: r => by
    have e : inV (.str x) ((y :: r).map V.str) = (eqV (.str y) (.str x) || inV (.str x) (r.map V.str)) := rfl
    rw [e, Bool.or_eq_true, mem_inV (ys := r), eqV_str, decide_eq_true_iff, List.mem_cons]
    exact ⟨fun z => z.imp Eq.symm id, fun z => z.imp Eq.symm id⟩
theorem readTable_tab {tabs : Tabs} {x : Str} {p : Place} (h : readTable tabs x = some p) : IsTab tabs p := by
  unfold readTable at h
  split at h
  · rename_i c
    cases h
    rw [cols_in] at c
    obtain ⟨cs, e⟩ := Option.isSome_iff_exists.mp c
    exact ⟨cs, rfl, e⟩
  · cases h
theorem readColumn_col {tabs : Tabs} {x : Str} {p : Place} (h : readColumn tabs x = some p) : IsCol tabs p := by
  unfold readColumn at h
  split at h
  · rename_i cs e
    split at h
    · rename_i c
      cases h
      exact ⟨_, cs, rfl, e, mem_inV.mp c⟩
    · cases h
  · cases h
theorem readWords_ok {tabs : Tabs} {ws : List Str} {f : Fact} (h : readWords tabs ws = some f) : FactOk tabs f := by
  have two : ∀ {a b x : Str} {l : List V}, l = [.str a, .str b] → inV (.str x) l = true → x = a ∨ x = b := fun {a b x l} e h => by
    subst e
    have z := mem_inV (x := x) (ys := [a, b]) |>.mp h
    simpa using z
  unfold readWords at h
  split at h
  · rename_i c
    obtain ⟨p, e, rfl⟩ := Option.map_eq_some_iff.mp h
    exact .inl ⟨two rfl c.2, readTable_tab e, rfl⟩
  · split at h
    · rename_i c
      obtain ⟨p, e, rfl⟩ := Option.map_eq_some_iff.mp h
      exact .inr (.inl ⟨two rfl c.2, readColumn_col e, rfl⟩)
    · split at h
      · rename_i c
        obtain ⟨g, e1, e⟩ := Option.bind_eq_some_iff.mp h
        obtain ⟨p, e2, rfl⟩ := Option.map_eq_some_iff.mp e
        exact .inr (.inr ⟨c.2.1, readColumn_col e2, g, rfl, readColumn_col e1⟩)
      · cases h
/-- whether tables keep the fact of a line -/
def lineKept (tabs : Tabs) (dat : Dat) (x : Str) : Bool := match readWords tabs (Txt.split x " ") with
  | some f => keepsB tabs dat f
  | none => true
def textV : Option Str → V
  | none => .non
  | some x => .str x
def brokenOf (tabs : Tabs) (dat : Dat) (ls : List Str) : Option Str := (onces ls).find? fun x => !lineKept tabs dat x
/-- what check says: the table that is told, or nothing -/
def Told (tabs : Tabs) (dat : Dat) (x : Str) : Prop := (∃ t, tabs.find? (isBad dat) = some t ∧ x = t.1) ∨ (tabs.find? (isBad dat) = none ∧ ∃ ys, ys.Perm (strangeOf tabs dat) ∧ sortedS ys = true ∧ ys.head? = some x)
theorem datOk_of {tabs : Tabs} {dat : Dat} (h : tabs.find? (isBad dat) = none) (hs : ∀ p ∈ dat, p.2.length < 64) : DatOk tabs dat := fun t ht => by
  have z := List.find?_eq_none.mp h t ht
  unfold isBad at z
  cases e : rowsOf dat t.1 with
  | none => rw [e] at z; exact absurd rfl z
  | some rs =>
    rw [e] at z
    have z2 : ∀ r ∈ rs, r.length = t.2.length := by simpa using z
    refine ⟨rs, rfl, z2, ?_⟩
    unfold rowsOf at e
    obtain ⟨p, hp, rfl⟩ := Option.map_eq_some_iff.mp e
    exact hs p (List.mem_of_find?_eq_some hp)
theorem DatAt.same {H H' : Hp} {d : Addr} {dat : Dat} (h : DatAt H d dat) (s : Same H H') : DatAt H' d dat := by
  obtain ⟨kvs, d1, d2⟩ := h
  have d2 : Paired (DatF H) kvs dat := d2
  exact ⟨kvs, s _ _ d1, Paired.mapP d2 fun kv p ⟨z1, l, z2, hr⟩ => ⟨z1, l, z2, rowsAt_same hr s⟩⟩
def sp_broken (C CS CB PR PS : Addr) : Sp := fun vs H Q E => ∃ (f d : Addr) (tabs : Tabs) (dat : Dat) (ls : List Str), vs = [.ref f, .ref d] ∧ FactsAt C CS tabs H f ls ∧ DatAt H d dat ∧ dat.length < 64 ∧ (∀ p ∈ dat, p.2.length < 64 ∧ ∀ r ∈ p.2, r.length ≤ 1000) ∧ H PR = some (TabX PR) ∧ H PS = some (TabX PS) ∧ tabs.length ≤ 1000 ∧ (tabs.map (·.1)).Nodup ∧
  (∀ H', tabs.find? (isBad dat) = none → strangeOf tabs dat = [] → Same H H' → Q (textV (brokenOf tabs dat ls)) H') ∧
  (∀ x H' dx, Told tabs dat x → Same H H' → H' dx = some (.xd [("table", .str x)]) → E (.ref CB) (some dx) H')
theorem ok_Facts_broken (T : TX K mg) (B : TB T base) : FnOk P w K mg base (L2.CX P w) 7 T.a_Facts_broken T.fd_Facts_broken p_Facts_broken (sp_broken T.C_Facts T.C_Schema T.x_BadTables.C T.P_is_row T.P_are_rows) := by
  refine Fun.okX T.F_Facts_broken sc_Facts_broken (fun vs H Q E h => ?_) (fun cdv A outer s H vs Q E hr h => ?_)
  · obtain ⟨f, d, tabs, dat, ls, rfl, _⟩ := h
    rfl
  · obtain ⟨f, d, tabs, dat, ls, rfl, ⟨dx, df, sc, of, kvs, f1, f2, f3, f4, f5⟩, hD, hd64, hlen, hP1, hP2, htl, hnd, kq, ke⟩ := h
    refine ⟨_, (pss_cons (ps_expr (pe_meth (pe_fld (pv 0) rfl) T.cl_Schema T.m_Schema_check (ok_Schema_check T B) (hr.mono (by decide)) T.b_Schema_check .nil (L2.passes_call (E := E) (takes_of rfl rfl rfl rfl) (fun _ _ _ _ z => z)) (pa_cons (pv 1) pa_nil)))
  (pss_cons (ps_for (passes_of rfl) rfl (pi_items (pe_fld (pv 0) rfl)) (pg_tup rfl (pgs_cons (pg_name (i := 2) sc_Facts_broken.nd rfl (Or.inl rfl)) (pgs_cons (pg_name (i := 3) sc_Facts_broken.nd rfl (Or.inl rfl)) pgs_nil))) (pss_one (ps_if (pt_not (pt_val (pe_call (ok_keeps T B) (hr.mono (by decide)) rfl T.g_keeps T.F_keeps.kp T.b_keeps .nil pass0 (pa_cons (pe_fld (pv 0) rfl) (pa_cons (pv 1) (pa_cons (pv 3) pa_nil)))))) (pss_one (ps_ret (pv 2))) pss_nil)))
  (pss_one (ps_ret pe_non)))), ?_⟩
    refine ⟨_, rfl, f, T.C_Facts, dx, _, _, rfl, f1, T.cl_Facts, T.n_Facts__schema, rfl, ?_⟩
    obtain ⟨dx5, fs5, e5, l5⟩ : ∃ dx5 fs5, H sc = some (.ins T.C_Schema dx5 fs5) ∧ fs5.lookup (Str.ofString "check") = none := by
      obtain ⟨x1, x2, x3, x4, x5, h1, _⟩ := f5
      exact ⟨_, _, h1, rfl⟩
    refine ⟨sc, dx5, fs5, rfl, e5, l5, _, rfl, ?_⟩
    refine ⟨sc, d, tabs, dat, rfl, f5, hD, hd64, fun p hp => ⟨by have z := (hlen p hp).1; omega, (hlen p hp).2⟩, hP1, hP2, htl, hnd, fun H1 n1 st1 s1 => ?_, fun x H1 dx1 told s1 e1 => ke x H1 dx1 told s1 e1⟩
    have kq := kq
    have dok := datOk_of n1 fun p hp => (hlen p hp).1
    refine ⟨_, rfl, f, T.C_Facts, dx, _, _, rfl, s1 _ _ f1, T.cl_Facts, T.n_Facts__facts, rfl, df, of, kvs, rfl, s1 _ _ f2, ?_⟩
    have hlk : ∀ i, i < kvs.length → ∃ (x : Str) (g : Fact) (q : Addr) (vp vg : V), kvs[i]? = some (.inr x, .ref q) ∧ (onces ls)[i]? = some x ∧ readWords tabs (Txt.split x " ") = some g ∧ H q = some (.tup [.str g.1, vp, vg]) ∧ PlV H (some g.2.1) vp ∧ PlV H g.2.2 vg := fun i hi => by
      obtain ⟨x, g, q, vp, vg, e, r1, r2, r3, r4⟩ := f4 _ (List.getElem_mem hi)
      have z := congrArg (fun l => l[i]?) f3
      simp only [List.getElem?_map, List.getElem?_eq_getElem hi, e, Option.map_some] at z
      refine ⟨x, g, q, vp, vg, by rw [List.getElem?_eq_getElem hi, e], ?_, r1, r2, r3, r4⟩
      cases c : (onces ls)[i]? with
      | none => rw [c] at z; cases z
      | some y => rw [c] at z; cases z; rfl
    have hkl : kvs.length = (onces ls).length := by
      have z := congrArg List.length f3
      simpa using z
    refine for_it walk_items (fun i σ H' => ∃ v2 v3 : Option V, σ = [some (.ref f), some (.ref d), v2, v3] ∧ Same H H' ∧ ∀ x ∈ (onces ls).take i, lineKept tabs dat x = true) ⟨none, none, rfl, s1, fun x hx => by cases hx⟩ (fun i σ H' _ ⟨_, _, _, s, _⟩ => s _ _ f2) ?_ ?_
    · rintro i x σ H2 H3 hi ⟨v2, v3, rfl, s2, hb⟩ ⟨tq, x0, y0, rfl, ntq, rfl, e6, e7⟩
      obtain ⟨x, g, q, vp, vg, e, ex, r1, r2, r3, r4⟩ := hlk i hi
      have e6 : kvs[i]?.map (fun kv => kV kv.1) = some x0 := e6
      have e7 : kvs[i]?.map Prod.snd = some y0 := e7
      rw [e] at e6 e7
      cases e6
      cases e7
      have s3 : Same H2 (upd H2 tq (.tup [.str x, .ref q])) := Same.new (Same.refl _) ntq
      have e3 : (upd H2 tq (.tup [.str x, .ref q])) tq = some (.tup [.str x, .ref q]) := upd_same
      refine ⟨tq, _, rfl, SqT.of e3, rfl, _, _, rfl, _, _, rfl, rfl, ?_⟩
      have s4 := s2.trans s3
      have hk : lineKept tabs dat x = keepsB tabs dat g := by unfold lineKept; rw [r1]
      have hxm : x ∈ onces ls := List.mem_of_getElem? ex
      refine ⟨_, rfl, f, T.C_Facts, dx, _, _, rfl, s4 _ _ f1, T.cl_Facts, T.n_Facts__schema, rfl, ?_⟩
      refine ⟨_, rfl, _, rfl, ?_⟩
      refine ⟨sc, d, q, vp, vg, tabs, dat, g, rfl, f5.same s4, hD.same s4, dok, s4 _ _ r2, r3.keepT (fun _ _ e => s4 _ _ e), r4.keepT (fun _ _ e => s4 _ _ e), readWords_ok r1, fun H4 s5 => ?_⟩
      have s6 : Same H H4 := s4.trans s5
      refine ⟨_, rfl, ?_⟩
      cases hkb : keepsB tabs dat g with
      | true =>
        refine iteF ⟨some (.str x), some (.ref q), rfl, s6, fun y hy => ?_⟩
        rw [List.take_add_one, ex] at hy
        rcases List.mem_append.mp hy with h | h
        · exact hb y h
        · rw [Option.toList_some, List.mem_singleton] at h
          rw [h, hk, hkb]
      | false =>
        refine iteT ⟨_, rfl, ?_⟩
        have hf : brokenOf tabs dat ls = some x := by
          unfold brokenOf
          rw [List.find?_eq_some_iff_getElem]
          have hi2 : i < (onces ls).length := by rw [← hkl]; exact hi
          rw [List.getElem?_eq_getElem hi2] at ex
          refine ⟨by rw [hk, hkb]; rfl, i, hi2, Option.some.inj ex, fun j hj => ?_⟩
          have z := hb (onces ls)[j] (List.mem_take_iff_getElem.mpr ⟨j, by omega, rfl⟩)
          rw [z]; rfl
        have z := kq H4 n1 st1 s6
        rw [hf] at z
        exact z
    · rintro σ H2 ⟨v2, v3, rfl, s2, hb⟩
      rw [hkl, List.take_length] at hb
      have hn : brokenOf tabs dat ls = none := by
        unfold brokenOf
        rw [List.find?_eq_none]
        intro x hx z
        rw [hb x hx] at z; cases z
      have z := kq H2 n1 st1 s2
      rw [hn] at z
      exact z
end
end L2.Pf
set_option maxHeartbeats 2000000
namespace L2.Pf
open PySem PySem.Spec PyProof.Rows L2.Ev L2.Tpd L2.Seti L2.Gq L2.Enf L2.Sett L2.Itr L2.Dls L2.Own L2.Ent
section
variable {P : Program} {w : World} {K : PySem.W.Frag} {mg : Str → Option Value} {base : Heap}
theorem mt_indexK {X : Cx} (hK : X.K = K := by rfl) : MtR X "list.index" (rIndex K) := by
  subst hK
  exact mt_index
theorem pe_bmK {X : Cx} {name : Str} {T id : String} {r : V → List V → Hp → VK → Prop} {o e : Expr} {es : List Expr} {to : TE} {t : TA} {apos cpos : Pos} (hK : X.K = K) (pa : PlainAttrs T) (slot : Slot T name id) (hty : typeOf (.builtin id) = pure (.type "method_descriptor")) (hm : MtR X id r) (ho : PE X o to) (ha : PA X (e :: es) t)
    (hbase : attributeBase o name X.env (eval o X.env) = eval o X.env := by rfl)
    (hfew : ((backTo cpos (starEach (e :: es) X.env)).all (fun x => !x.1) && (backToKw cpos (keywordEach [] X.env)).all (fun x => x.1.isSome)
      && decide ((e :: es).length + ([] : List Keyword).length + (if ([] : List Keyword).isEmpty then 0 else 1) < 30)) = true := by rfl)
    (hline : (apos.endLine == cpos.line) = true := by rfl) (hs : starEach (e :: es) X.env = (false, eval e X.env) :: starEach es X.env := by rfl) (hplain : (backTo cpos (starEach es X.env)).any (·.1) = false := by rfl) :
    PE X (.Call (.Attribute o name apos) (e :: es) [] cpos) (tBM K T r to t) := by
  subst hK
  exact pe_bm pa slot hty hm ho ha hbase hfew hline hs hplain
/-- the law's plain dict of its tables -/
def PlainAt (H : Hp) (a : Addr) (tabs : Tabs) : Prop := ∃ (l i b : Addr) (qs : List Addr), H a = some (.dK [(.inr "tables", .ref l), (.inr "indexes", .ref i), (.inr "body", .ref b)]) ∧ H l = some (.lst (qs.map V.ref)) ∧ TabsAt H qs tabs
theorem PlainAt.keep {H H' : Hp} {a : Addr} {tabs : Tabs} (h : PlainAt H a tabs) (s : Same H H') : PlainAt H' a tabs :=
  let ⟨l, i, b, qs, h1, h2, h3⟩ := h
  ⟨l, i, b, qs, s _ _ h1, s _ _ h2, Paired.mapP h3 fun q t ⟨c, e1, e2⟩ => ⟨c, s _ _ e1, s _ _ e2⟩⟩
def sp_law_columns : Sp := fun vs H Q _ => ∃ (a : Addr) (x : Str) (tabs : Tabs) (cs : List Str), vs = [.ref a, .str x] ∧ PlainAt H a tabs ∧ tabs.length ≤ 4 ∧ colsOf tabs x = some cs ∧ ∀ H' c, Same H H' → H' c = some (.lst (cs.map V.str)) → Q (.ref c) H'
theorem ok_columns (T : TX K mg) (B : TB T base) : FnOk P w K mg base CX0 1 T.a_columns T.fd_columns p_columns sp_law_columns := by
  refine T.F_columns.ok sc_columns (fun vs H Q E h => ?_) (fun cdv A outer s H vs Q E hr h => ?_)
  · obtain ⟨a, x, tabs, cs, rfl, _⟩ := h
    rfl
  · obtain ⟨a, x, tabs, cs, rfl, hP, h4, hc, k⟩ := h
    refine ⟨_, (pss_one (ps_ret (pe_ix ix_list (pe_lc (own := [("_law_name", 2), ("_law_columns_here", 3)]) (g := gTup K 2 (gCons (gName 2) (gCons (gName 3) gNil))) (tt := _) rfl sc_columns.nd (pi_list (pe_dget (hu_of hr) (pv 0) pe_str (fun _ _ => rfl))) (blkOk_by (own := [("_law_name", 2), ("_law_columns_here", 3)]) (N := n_columns) (sc := defScope s_columns) (by decide +kernel)) (fun _ _ _ _ _ => (pg_tup rfl (pgs_cons (pg_name (i := 2) sc_columns.nd rfl (Or.inl rfl)) (pgs_cons (pg_name (i := 3) sc_columns.nd rfl (Or.inl rfl)) pgs_nil)))) (fun _ _ _ _ _ => pts_one (pt_cmpR op_eq (pv 2) (pv 1) (nomark _))) (fun _ _ _ _ _ => (pv 3))) pe_int (fun _ _ => rfl)))), ?_⟩
    obtain ⟨l, ii, b, qs, h1, h2, h3⟩ := hP
    have hlen : qs.length = tabs.length := Paired.length h3
    refine ⟨_, rfl, a, .ref l, rfl, .inl ⟨_, .inr "tables", .inl h1, rfl, rfl⟩, l, rfl, ⟨_, SqL.of h2⟩, fun D hD0 => ?_⟩
    refine lc_grow (n := tabs.length) hD0 (fun i acc H' => (acc = [] ∧ ∀ t ∈ tabs.take i, t.1 ≠ x) ∨ ∃ c r, acc = .ref c :: r ∧ H c = some (.lst (cs.map V.str))) (fun i acc H' o hp _ => hp) (fun _ _ => .inl ⟨rfl, fun t ht => by cases ht⟩)
      (fun i H' hi s1 => ⟨_, V.ref (qs[i]'(by omega)), SqL.of (s1 _ _ h2), by rw [List.getElem?_map, List.getElem?_eq_getElem (by omega)]; rfl⟩) (fun H' s1 => ⟨_, SqL.of (s1 _ _ h2), by rw [List.length_map]; omega⟩) (small1000 (by omega)) (fun i acc H' F G hF hG hi s1 hacc hp v H2 yl => ?_) (fun acc H' s1 ha hp => ?_)
    · obtain ⟨eH, ev⟩ := yl
      subst eH
      have ev := ev _ (SqL.of (s1 _ _ h2))
      rw [List.getElem?_map, List.getElem?_eq_getElem (show i < qs.length by omega)] at ev
      cases ev
      obtain ⟨c, g1, g2⟩ := paired_get h3 (List.getElem?_eq_getElem (show i < qs.length by omega)) (List.getElem?_eq_getElem hi)
      refine ⟨_, _, rfl, SqT.of (s1 _ _ g1), rfl, _, _, rfl, _, _, rfl, rfl, rfl, ?_⟩
      have eqs : ∀ (x y : Str), decide (V.str x = V.str y) = decide (x = y) := fun x y => by
        by_cases h : x = y
        · rw [decide_eq_true h, decide_eq_true (by rw [h])]
        · rw [decide_eq_false h, decide_eq_false (fun z => h (by cases z; rfl))]
      refine ⟨_, rfl, _, rfl, rfl, _, rfl, ?_⟩
      rw [eqs]
      have gc : H c = some (.lst (tabs[i].2.map V.str)) := g2
      by_cases e : tabs[i].1 = x
      · rw [decide_eq_true e]
        refine iteT ⟨_, rfl, hF _ _ (Same.refl _) ?_⟩
        rcases hp with ⟨rfl, hn⟩ | ⟨c0, r, rfl, h0⟩
        · refine .inr ⟨c, [], rfl, ?_⟩
          have hf : tabs.find? (fun t => decide (t.1 = x)) = some tabs[i] := by
            rw [List.find?_eq_some_iff_getElem]
            refine ⟨decide_eq_true e, i, hi, rfl, fun j hj => ?_⟩
            have z := hn tabs[j] (List.mem_take_iff_getElem.mpr ⟨j, by omega, rfl⟩)
            rw [decide_eq_false z]; rfl
          unfold colsOf at hc
          rw [hf] at hc
          cases hc
          exact gc
        · exact .inr ⟨c0, r ++ [.ref c], rfl, h0⟩
      · rw [decide_eq_false e]
        refine iteF (hG _ (Same.refl _) ?_)
        rcases hp with ⟨rfl, hn⟩ | h
        · refine .inl ⟨rfl, fun t ht => ?_⟩
          rw [List.take_add_one, List.getElem?_eq_getElem hi] at ht
          rcases List.mem_append.mp ht with h | h
          · exact hn t h
          · rw [Option.toList_some, List.mem_singleton] at h
            rw [h]; exact e
        · exact .inr h
    · rw [List.take_length] at hp
      rcases hp with ⟨rfl, hn⟩ | ⟨c, r, rfl, h0⟩
      · exfalso
        unfold colsOf at hc
        obtain ⟨p, hp, _⟩ := Option.map_eq_some_iff.mp hc
        have z := List.find?_some hp
        exact hn p (List.mem_of_find?_eq_some hp) (of_decide_eq_true z)
      · exact ⟨D, _, 0, _, rfl, rfl, SqL.of ha, atI_nat (k := 0) rfl, k _ c s1 (s1 _ _ h0)⟩
end
end L2.Pf
set_option maxHeartbeats 4000000
namespace L2.Pf
open PySem PySem.Spec PyProof.Rows L2.Ev L2.Tpd L2.Seti L2.Gq L2.Enf L2.Sett L2.Itr L2.Dls L2.Own L2.Ent
theorem tl_0 : TL.tl ("" : Str) = [] := by decide +kernel
theorem tl_1 : TL.tl ("unique" : Str) = [117, 110, 105, 113, 117, 101] := by decide +kernel
theorem tl_2 : TL.tl ("." : Str) = [46] := by decide +kernel
theorem tl_3 : TL.tl ("single" : Str) = [115, 105, 110, 103, 108, 101] := by decide +kernel
theorem tl_4 : TL.tl ("Unique" : Str) = [85, 110, 105, 113, 117, 101] := by decide +kernel
theorem tl_5 : TL.tl ("zzz" : Str) = [122, 122, 122] := by decide +kernel
theorem tl_6 : TL.tl ("sorted" : Str) = [115, 111, 114, 116, 101, 100] := by decide +kernel
theorem tl_7 : TL.tl ("nowhere" : Str) = [110, 111, 119, 104, 101, 114, 101] := by decide +kernel
theorem tl_8 : TL.tl ("filled" : Str) = [102, 105, 108, 108, 101, 100] := by decide +kernel
theorem tl_9 : TL.tl ("empty" : Str) = [101, 109, 112, 116, 121] := by decide +kernel
theorem tl_10 : TL.tl ("found" : Str) = [102, 111, 117, 110, 100] := by decide +kernel
theorem tl_11 : TL.tl ("in" : Str) = [105, 110] := by decide +kernel
theorem tl_12 : TL.tl ("of" : Str) = [111, 102] := by decide +kernel
theorem tl_13 : TL.tl ("x" : Str) = [120] := by decide +kernel
theorem tl_14 : TL.tl ("not" : Str) = [110, 111, 116] := by decide +kernel
theorem tl_15 : TL.tl (" " : Str) = [32] := by decide +kernel
theorem tl_16 : TL.tl ("unique " : Str) = [117, 110, 105, 113, 117, 101, 32] := by decide +kernel
theorem tl_17 : TL.tl ("unique ." : Str) = [117, 110, 105, 113, 117, 101, 32, 46] := by decide +kernel
theorem tl_18 : TL.tl ("single " : Str) = [115, 105, 110, 103, 108, 101, 32] := by decide +kernel
theorem tl_19 : TL.tl (" unique " : Str) = [32, 117, 110, 105, 113, 117, 101, 32] := by decide +kernel
theorem tl_20 : TL.tl ("unique  " : Str) = [117, 110, 105, 113, 117, 101, 32, 32] := by decide +kernel
theorem tl_21 : TL.tl ("Unique " : Str) = [85, 110, 105, 113, 117, 101, 32] := by decide +kernel
theorem tl_22 : TL.tl (".zzz" : Str) = [46, 122, 122, 122] := by decide +kernel
theorem tl_23 : TL.tl ("sorted " : Str) = [115, 111, 114, 116, 101, 100, 32] := by decide +kernel
theorem tl_24 : TL.tl ("sorted nowhere." : Str) = [115, 111, 114, 116, 101, 100, 32, 110, 111, 119, 104, 101, 114, 101, 46] := by decide +kernel
theorem tl_25 : TL.tl ("single nowhere" : Str) = [115, 105, 110, 103, 108, 101, 32, 110, 111, 119, 104, 101, 114, 101] := by decide +kernel
theorem tl_26 : TL.tl ("filled nowhere" : Str) = [102, 105, 108, 108, 101, 100, 32, 110, 111, 119, 104, 101, 114, 101] := by decide +kernel
theorem tl_27 : TL.tl ("filled " : Str) = [102, 105, 108, 108, 101, 100, 32] := by decide +kernel
theorem tl_28 : TL.tl ("empty " : Str) = [101, 109, 112, 116, 121, 32] := by decide +kernel
theorem tl_29 : TL.tl ("found " : Str) = [102, 111, 117, 110, 100, 32] := by decide +kernel
theorem tl_30 : TL.tl (" in" : Str) = [32, 105, 110] := by decide +kernel
theorem tl_31 : TL.tl (" of " : Str) = [32, 111, 102, 32] := by decide +kernel
theorem tl_32 : TL.tl (" in " : Str) = [32, 105, 110, 32] := by decide +kernel
theorem tl_33 : TL.tl ("in " : Str) = [105, 110, 32] := by decide +kernel
theorem tl_34 : TL.tl (" in nowhere.zzz" : Str) = [32, 105, 110, 32, 110, 111, 119, 104, 101, 114, 101, 46, 122, 122, 122] := by decide +kernel
theorem tl_35 : TL.tl ("  in " : Str) = [32, 32, 105, 110, 32] := by decide +kernel
theorem tl_36 : TL.tl (" in  " : Str) = [32, 105, 110, 32, 32] := by decide +kernel
theorem tl_37 : TL.tl ("found nowhere." : Str) = [102, 111, 117, 110, 100, 32, 110, 111, 119, 104, 101, 114, 101, 46] := by decide +kernel
theorem tl_38 : TL.tl (".zzz in " : Str) = [46, 122, 122, 122, 32, 105, 110, 32] := by decide +kernel
theorem tl_39 : TL.tl ("not single " : Str) = [110, 111, 116, 32, 115, 105, 110, 103, 108, 101, 32] := by decide +kernel
theorem blank_tl : TL.tl (" " : Str) = 32 :: [] := by decide +kernel
theorem dot_tl : TL.tl ("." : Str) = 46 :: [] := by decide +kernel
theorem words_are {x : Str} {ws : List Str} (h : TL.tl x = TL.joinL [32] (ws.map TL.tl)) (hne : ws ≠ []) (hp : ∀ p ∈ ws, 32 ∉ TL.tl p) : Txt.split x " " = ws := by
  have e : x = Txt.join " " ws := by
    apply TL.ext_tl
    rw [TL.join_eq, TL.tl_join, h, blank_tl]
  rw [e]
  exact TL.split_join blank_tl (by decide +kernel) hne hp
theorem no_blank {x : Str} (h : x ∈ NAMES) : 32 ∉ TL.tl x := by
  have z : ∀ x ∈ NAMES, 32 ∉ TL.tl x := by decide +kernel
  exact z x h
theorem no_dot {x : Str} (h : x ∈ NAMES) : 46 ∉ TL.tl x := by
  have z : ∀ x ∈ NAMES, 46 ∉ TL.tl x := by decide +kernel
  exact z x h
theorem no_line {x : Str} (h : x ∈ NAMES) : 10 ∉ TL.tl x := by
  have z : ∀ x ∈ NAMES, 10 ∉ TL.tl x := by decide +kernel
  exact z x h
theorem up_blank {x : Str} (h : x ∈ NAMES) : 32 ∉ TL.tl (Txt.upper x) := by
  have z : ∀ x ∈ NAMES, 32 ∉ TL.tl (Txt.upper x) := by decide +kernel
  exact z x h
theorem up_dot {x : Str} (h : x ∈ NAMES) : 46 ∉ TL.tl (Txt.upper x) := by
  have z : ∀ x ∈ NAMES, 46 ∉ TL.tl (Txt.upper x) := by decide +kernel
  exact z x h
theorem nx : ∀ x ∈ NAMES, (x ++ ("x" : Str)) ∉ NAMES := by decide +kernel
theorem nup : ∀ x ∈ NAMES, Txt.upper x ∉ NAMES := by decide +kernel
theorem dot_no {x : Str} (h : 46 ∈ TL.tl x) : x ∉ NAMES := fun z => no_dot z h
theorem empty_no : Str.empty ∉ NAMES := by decide +kernel
theorem rw_len {tabs : Tabs} {ws : List Str} (h2 : ws.length ≠ 2) (h4 : ws.length ≠ 4) : readWords tabs ws = none := by
  unfold readWords
  rw [if_neg (fun z => h2 z.1), if_neg (fun z => h2 z.1), if_neg (fun z => h4 z.1)]
theorem rw2t {tabs : Tabs} {a b : Str} (h : inV (.str a) k_OF_TABLES = true) (hb : readTable tabs b = none) : readWords tabs [a, b] = none := by
  unfold readWords
  rw [if_pos ⟨rfl, h⟩]
  show (readTable tabs b).map _ = none
  rw [hb]; rfl
theorem rw2c {tabs : Tabs} {a b : Str} (h : inV (.str a) k_OF_TABLES = false) (h2 : inV (.str a) k_OF_COLUMNS = true) (hb : readColumn tabs b = none) : readWords tabs [a, b] = none := by
  unfold readWords
  rw [if_neg (fun z => by have z2 : inV (.str a) k_OF_TABLES = true := z.2; rw [h] at z2; cases z2), if_pos ⟨rfl, h2⟩]
  show (readColumn tabs b).map _ = none
  rw [hb]; rfl
theorem rw2x {tabs : Tabs} {a b : Str} (h : inV (.str a) k_OF_TABLES = false) (h2 : inV (.str a) k_OF_COLUMNS = false) : readWords tabs [a, b] = none := by
  unfold readWords
  rw [if_neg (fun z => by have z2 : inV (.str a) k_OF_TABLES = true := z.2; rw [h] at z2; cases z2), if_neg (fun z => by have z2 : inV (.str a) k_OF_COLUMNS = true := z.2; rw [h2] at z2; cases z2), if_neg (fun z => by have z2 := z.1; simp at z2)]
theorem rw4x {tabs : Tabs} {a b c d : Str} (h : a ≠ ("found" : Str) ∨ c ≠ ("in" : Str)) : readWords tabs [a, b, c, d] = none := by
  unfold readWords
  rw [if_neg (fun z => by have z2 := z.1; simp at z2), if_neg (fun z => by have z2 := z.1; simp at z2), if_neg (fun z => h.elim (fun g => g z.2.1) (fun g => g z.2.2))]
theorem rw4e {tabs : Tabs} {a b : Str} : readWords tabs [("found" : Str), a, ("in" : Str), b] = (readColumn tabs b).bind fun g => (readColumn tabs a).map fun p => (("found" : Str), p, some g) := by
  unfold readWords
  rw [if_neg (fun z => by have z2 := z.1; simp at z2), if_neg (fun z => by have z2 := z.1; simp at z2), if_pos ⟨rfl, rfl, rfl⟩]
  rfl
theorem rw4 {tabs : Tabs} {a b : Str} (h : readColumn tabs a = none ∨ readColumn tabs b = none) : readWords tabs [("found" : Str), a, ("in" : Str), b] = none := by
  rw [rw4e]
  rcases h with h | h
  · rw [h]
    cases readColumn tabs b <;> rfl
  · rw [h]; rfl
theorem table_none {tabs : Tabs} {x : Str} (G : ∀ t ∈ tabs, GoodTab t) (h : x ∉ NAMES) : readTable tabs x = none := by
  unfold readTable
  refine if_neg fun z => h ?_
  have z2 : inV (.str x) ((tabs.map (·.1)).map V.str) = true := by rw [List.map_map]; exact z
  obtain ⟨t, ht, e⟩ := List.mem_map.mp (mem_inV.mp z2)
  rw [← e]; exact (G t ht).name
theorem cols_mem {tabs : Tabs} {x : Str} {cs : List Str} (h : colsOf tabs x = some cs) : (x, cs) ∈ tabs := by
  have z := cols_find h
  exact List.mem_of_find?_eq_some z
theorem col_part {tabs : Tabs} {x : Str} (G : ∀ t ∈ tabs, GoodTab t) (h : (Txt.partition x ".").1 ∉ NAMES ∨ (Txt.partition x ".").2.2 ∉ NAMES) : readColumn tabs x = none := by
  unfold readColumn
  cases e : colsOf tabs (Txt.partition x ".").1 with
  | none => rfl
  | some cs =>
    have hm := cols_mem e
    have g := G _ hm
    refine if_neg fun z => ?_
    rcases h with h | h
    · exact h g.name
    · exact h (g.cols _ (mem_inV.mp z))
theorem col_nodot {tabs : Tabs} {x : Str} (G : ∀ t ∈ tabs, GoodTab t) (h : 46 ∉ TL.tl x) : readColumn tabs x = none := by
  refine col_part G (.inr ?_)
  rw [TL.partition_none dot_tl h]
  exact empty_no
theorem col_none {tabs : Tabs} {p c : Str} (G : ∀ t ∈ tabs, GoodTab t) (hp : 46 ∉ TL.tl p) (h : p ∉ NAMES ∨ c ∉ NAMES) : readColumn tabs (p ++ "." ++ c) = none := by
  refine col_part G ?_
  rw [TL.partition_app dot_tl hp]
  exact h
/-- a line that is no fact at any place: no fact at all, or one that leads from a table to itself -/
def Bad (tabs : Tabs) (x : Str) : Prop := readWords tabs (Txt.split x " ") = none ∨ ∃ f, readWords tabs (Txt.split x " ") = some f ∧ ∀ L, Back L f
theorem rw_self {tabs : Tabs} {p a b : Str} (hp : 46 ∉ TL.tl p) : readWords tabs [("found" : Str), p ++ "." ++ a, ("in" : Str), p ++ "." ++ b] = none ∨ ∃ f, readWords tabs [("found" : Str), p ++ "." ++ a, ("in" : Str), p ++ "." ++ b] = some f ∧ ∀ L, Back L f := by
  have key : ∀ {c : Str} {r : Place}, readColumn tabs (p ++ "." ++ c) = some r → r.1 = p := fun {c r} h => by
    unfold readColumn at h
    rw [TL.partition_app dot_tl hp] at h
    split at h
    · split at h
      · cases h; rfl
      · cases h
    · cases h
  rw [rw4e]
  cases e1 : readColumn tabs (p ++ "." ++ b) with
  | none => exact .inl rfl
  | some g =>
    cases e2 : readColumn tabs (p ++ "." ++ a) with
    | none => exact .inl rfl
    | some r =>
      refine .inr ⟨_, rfl, fun L => ⟨rfl, ?_⟩⟩
      show Reach L g.1 r.1
      rw [key e1, key e2]
      exact .here
theorem up_len {x : Str} (h : x ∈ NAMES) : (Txt.upper x).length ≤ 12 := by
  have z : ∀ x ∈ NAMES, (Txt.upper x).length ≤ 12 := by decide +kernel
  exact z x h
end L2.Pf
set_option maxHeartbeats 4000000
namespace L2.Pf
open PySem PySem.Spec PyProof.Rows L2.Ev L2.Tpd L2.Seti L2.Gq L2.Enf L2.Sett L2.Itr L2.Dls L2.Own L2.Ent
def linkLine (x y : Str) : Str := ("found " : Str) ++ x ++ " in " ++ y
/-- the links of a line -/
def linksOf (tabs : Tabs) (x : Str) : Links := match readWords tabs (Txt.split x " ") with
  | some f => linkOf f
  | none => []
/-- a fact whose link goes upward -/
def Up (tabs : Tabs) (r : Str → Nat) (x : Str) : Prop := ∃ f, readWords tabs (Txt.split x " ") = some f ∧ ∀ p ∈ linkOf f, r p.1 < r p.2
theorem reach_up {L : Links} {r : Str → Nat} (h : ∀ p ∈ L, r p.1 < r p.2) {a b : Str} (R : Reach L a b) : r a ≤ r b := by
  induction R with
  | here => exact Nat.le_refl _
  | step _ m ih => exact Nat.le_trans ih (Nat.le_of_lt (h _ m))
theorem run_ok {tabs : Tabs} {i : Nat} {L : Links} {x : Str} {ls : List Str} {f : Fact} (e : readWords tabs (Txt.split x " ") = some f) (b : ¬ Back L f) : runFacts tabs i L (x :: ls) = runFacts tabs (i + 1) (L ++ linkOf f) ls := by
  rw [runFacts_cons, e]
  exact if_neg b
theorem run_back {tabs : Tabs} {i : Nat} {L : Links} {x : Str} {ls : List Str} {f : Fact} (e : readWords tabs (Txt.split x " ") = some f) (b : Back L f) : runFacts tabs i L (x :: ls) = .error i := by
  rw [runFacts_cons, e]
  exact if_pos b
theorem run_bad {tabs : Tabs} {i : Nat} {L : Links} {x : Str} {ls : List Str} (b : Bad tabs x) : runFacts tabs i L (x :: ls) = .error i := by
  rcases b with b | ⟨f, e, b⟩
  · rw [runFacts_cons, b]
  · exact run_back e (b L)
theorem run_up {tabs : Tabs} {r : Str → Nat} : ∀ (ls : List Str) (i : Nat) (L : Links) (rest : List Str), (∀ p ∈ L, r p.1 < r p.2) → (∀ x ∈ ls, Up tabs r x) →
    runFacts tabs i L (ls ++ rest) = runFacts tabs (i + ls.length) (L ++ ls.flatMap (linksOf tabs)) rest ∧ ∀ p ∈ L ++ ls.flatMap (linksOf tabs), r p.1 < r p.2 := by
  intro ls
  induction ls with
  | nil => intro i L rest hL _; exact ⟨by simp, by simpa using hL⟩
  | cons x t ih =>
    intro i L rest hL h
    obtain ⟨f, e, up⟩ := h x List.mem_cons_self
    have hl : linksOf tabs x = linkOf f := by unfold linksOf; rw [e]
    have nb : ¬ Back L f := fun ⟨ef, R⟩ => by
      have z := up (f.2.1.1, (f.2.2.map (·.1)).getD Str.empty) (by unfold linkOf; rw [if_pos ef]; exact List.mem_singleton_self _)
      have z2 := reach_up hL R
      exact absurd z (Nat.not_lt.mpr z2)
    have hL2 : ∀ p ∈ L ++ linkOf f, r p.1 < r p.2 := fun p hp => (List.mem_append.mp hp).elim (hL p) (up p)
    obtain ⟨i1, i2⟩ := ih (i + 1) (L ++ linkOf f) rest hL2 fun y hy => h y (List.mem_cons_of_mem _ hy)
    have e2 : L ++ (x :: t).flatMap (linksOf tabs) = (L ++ linkOf f) ++ t.flatMap (linksOf tabs) := by rw [List.flatMap_cons, hl, List.append_assoc]
    rw [e2]
    refine ⟨?_, i2⟩
    rw [List.cons_append, run_ok e nb, i1, List.length_cons]
    congr 1
    omega
theorem ups_ok {tabs : Tabs} {r : Str → Nat} {ls : List Str} (h : ∀ x ∈ ls, Up tabs r x) : ∃ L, runFacts tabs 0 [] ls = .ok L := by
  have z := (run_up (r := r) ls 0 [] [] (fun p hp => by cases hp) h).1
  rw [List.append_nil] at z
  exact ⟨_, z.trans rfl⟩
/-! ### the lines that are facts -/
section
variable {tabs : Tabs} (G : ∀ t ∈ tabs, GoodTab t) (nd : (tabs.map (·.1)).Nodup)
include G in
theorem spot_nb {t : Str × List Str} {y : Str} (ht : t ∈ tabs) (hy : y ∈ t.2) : 32 ∉ TL.tl (spotOf t.1 y) := by
  unfold spotOf
  rw [TL.tl_append, TL.tl_append, dot_tl]
  have a := no_blank (G t ht).name
  have b := no_blank ((G t ht).cols y hy)
  simp only [List.mem_append, not_or]
  exact ⟨⟨a, by decide⟩, b⟩
include G nd in
theorem spot_read {t : Str × List Str} {y : Str} (ht : t ∈ tabs) (hy : y ∈ t.2) : readColumn tabs (spotOf t.1 y) = some (t.1, some y) := by
  unfold readColumn spotOf
  rw [TL.partition_app dot_tl (no_dot (G t ht).name), cols_of nd ht]
  exact if_pos (mem_inV.mpr hy)
theorem words2 {a b : Str} {x : Str} (e : x = a ++ " " ++ b) (ha : 32 ∉ TL.tl a) (hb : 32 ∉ TL.tl b) : Txt.split x " " = [a, b] := by
  refine words_are ?_ (by simp) ?_
  · rw [e, TL.tl_append, TL.tl_append, blank_tl]
    simp [TL.joinL]
  · intro p hp
    simp only [List.mem_cons, List.not_mem_nil, or_false] at hp
    rcases hp with rfl | rfl
    · exact ha
    · exact hb
theorem words4 {a b c d : Str} {x : Str} (e : x = a ++ " " ++ b ++ " " ++ c ++ " " ++ d) (ha : 32 ∉ TL.tl a) (hb : 32 ∉ TL.tl b) (hc : 32 ∉ TL.tl c) (hd : 32 ∉ TL.tl d) : Txt.split x " " = [a, b, c, d] := by
  refine words_are ?_ (by simp) ?_
  · rw [e]
    simp only [TL.tl_append, blank_tl, List.map_cons, List.map_nil, TL.joinL, List.append_assoc]
  · intro p hp
    simp only [List.mem_cons, List.not_mem_nil, or_false] at hp
    rcases hp with rfl | rfl | rfl | rfl
    · exact ha
    · exact hb
    · exact hc
    · exact hd
theorem no_link {f : Fact} (h : f.1 ≠ ("found" : Str)) : linkOf f = [] := by
  unfold linkOf
  exact if_neg h
include G in
theorem up_table {r : Str → Nat} {t : Str × List Str} {w x : Str} (ht : t ∈ tabs) (hx : x = w ++ " " ++ t.1) (hw : w = ("single" : Str) ∨ w = ("filled" : Str)) : Up tabs r x ∧ linksOf tabs x = [] := by
  have nb : 32 ∉ TL.tl w := by rcases hw with rfl | rfl <;> decide +kernel
  have hi : inV (.str w) k_OF_TABLES = true := by rcases hw with rfl | rfl <;> decide +kernel
  have nf : w ≠ ("found" : Str) := by rcases hw with rfl | rfl <;> decide +kernel
  have e : readWords tabs (Txt.split x " ") = some (w, (t.1, none), none) := by
    rw [words2 hx nb (no_blank (G t ht).name)]
    unfold readWords
    rw [if_pos ⟨rfl, hi⟩]
    show (readTable tabs t.1).map _ = _
    have z : readTable tabs t.1 = some (t.1, none) := by
      unfold readTable
      refine if_pos ?_
      have z2 : inV (.str t.1) ((tabs.map (·.1)).map V.str) = true := mem_inV.mpr (List.mem_map.mpr ⟨t, ht, rfl⟩)
      rw [List.map_map] at z2; exact z2
    rw [z]; rfl
  refine ⟨⟨_, e, fun p hp => ?_⟩, ?_⟩
  · rw [no_link nf] at hp; cases hp
  · unfold linksOf; rw [e]; exact no_link nf
include G nd in
theorem up_column {r : Str → Nat} {t : Str × List Str} {w x y : Str} (ht : t ∈ tabs) (hy : y ∈ t.2) (hx : x = w ++ " " ++ spotOf t.1 y) (hw : w = ("unique" : Str) ∨ w = ("sorted" : Str)) : Up tabs r x ∧ linksOf tabs x = [] := by
  have nb : 32 ∉ TL.tl w := by rcases hw with rfl | rfl <;> decide +kernel
  have hi : inV (.str w) k_OF_COLUMNS = true := by rcases hw with rfl | rfl <;> decide +kernel
  have hi2 : ¬ inV (.str w) k_OF_TABLES = true := by rcases hw with rfl | rfl <;> decide +kernel
  have nf : w ≠ ("found" : Str) := by rcases hw with rfl | rfl <;> decide +kernel
  have e : readWords tabs (Txt.split x " ") = some (w, (t.1, some y), none) := by
    rw [words2 hx nb (spot_nb G ht hy)]
    unfold readWords
    rw [if_neg (fun z => hi2 z.2), if_pos ⟨rfl, hi⟩]
    show (readColumn tabs (spotOf t.1 y)).map _ = _
    rw [spot_read G nd ht hy]; rfl
  refine ⟨⟨_, e, fun p hp => ?_⟩, ?_⟩
  · rw [no_link nf] at hp; cases hp
  · unfold linksOf; rw [e]; exact no_link nf
theorem link_text {a b : Str} : linkLine a b = ("found" : Str) ++ " " ++ a ++ " " ++ "in" ++ " " ++ b := by
  have e1 : ("found " : Str) = ("found" : Str) ++ " " := by decide +kernel
  have e2 : (" in " : Str) = (" " : Str) ++ "in" ++ " " := by decide +kernel
  unfold linkLine
  rw [e1, e2]
  simp only [Str.append_assoc]
include G nd in
theorem link_read {t u : Str × List Str} {y z : Str} (ht : t ∈ tabs) (hy : y ∈ t.2) (hu : u ∈ tabs) (hz : z ∈ u.2) : readWords tabs (Txt.split (linkLine (spotOf t.1 y) (spotOf u.1 z)) " ") = some (("found" : Str), (t.1, some y), some (u.1, some z)) := by
  rw [words4 link_text (by decide +kernel) (spot_nb G ht hy) (by decide +kernel) (spot_nb G hu hz), rw4e, spot_read G nd ht hy, spot_read G nd hu hz]
  rfl
theorem link_of {a b : Place} : linkOf (("found" : Str), a, some b) = [(a.1, b.1)] := by
  unfold linkOf
  exact if_pos rfl
include G nd in
theorem link_links {t u : Str × List Str} {y z : Str} (ht : t ∈ tabs) (hy : y ∈ t.2) (hu : u ∈ tabs) (hz : z ∈ u.2) : linksOf tabs (linkLine (spotOf t.1 y) (spotOf u.1 z)) = [(t.1, u.1)] := by
  unfold linksOf
  rw [link_read G nd ht hy hu hz]
  exact link_of
include G nd in
theorem up_link {r : Str → Nat} {t u : Str × List Str} {y z : Str} (ht : t ∈ tabs) (hy : y ∈ t.2) (hu : u ∈ tabs) (hz : z ∈ u.2) (h : r t.1 < r u.1) : Up tabs r (linkLine (spotOf t.1 y) (spotOf u.1 z)) := by
  refine ⟨_, link_read G nd ht hy hu hz, fun p hp => ?_⟩
  rw [link_of] at hp
  rw [List.mem_singleton.mp hp]
  exact h
def rk (o : List Str) (x : Str) : Nat := o.idxOf x
theorem rk_get {o : List Str} (h : o.Nodup) {i : Nat} {x : Str} (e : o[i]? = some x) : rk o x = i := by
  obtain ⟨hi, e⟩ := List.getElem?_eq_some_iff.mp e
  unfold rk
  rw [← e]
  exact h.idxOf_getElem i hi
include G nd in
theorem fact_up {order : Tabs} {x : Str} (hp : order.Perm tabs) (h : FactOf order x) : Up tabs (rk (order.map (·.1))) x := by
  have m : ∀ {t}, t ∈ order → t ∈ tabs := fun h => hp.mem_iff.mp h
  have no : (order.map (·.1)).Nodup := (hp.map _).nodup_iff.mpr nd
  cases h with
  | single ht => exact (up_table G (m ht) (by rw [show ("single " : Str) = ("single" : Str) ++ " " by decide +kernel]) (.inl rfl)).1
  | filled ht => exact (up_table G (m ht) (by rw [show ("filled " : Str) = ("filled" : Str) ++ " " by decide +kernel]) (.inr rfl)).1
  | unique ht hy => exact (up_column G nd (m ht) hy (by rw [show ("unique " : Str) = ("unique" : Str) ++ " " by decide +kernel]) (.inl rfl)).1
  | sorted ht hy => exact (up_column G nd (m ht) hy (by rw [show ("sorted " : Str) = ("sorted" : Str) ++ " " by decide +kernel]) (.inr rfl)).1
  | found hij hi hj hy hz =>
    refine up_link G nd (m (List.mem_of_getElem? hi)) hy (m (List.mem_of_getElem? hj)) hz ?_
    rw [rk_get no (by rw [List.getElem?_map, hi]; rfl), rk_get no (by rw [List.getElem?_map, hj]; rfl)]
    exact hij
end
end L2.Pf
set_option maxHeartbeats 4000000
namespace L2.Pf
open PySem PySem.Spec PyProof.Rows L2.Ev L2.Tpd L2.Seti L2.Gq L2.Enf L2.Sett L2.Itr L2.Dls L2.Own L2.Ent
theorem line_tl : TL.tl ("\n" : Str) = 10 :: [] := by decide +kernel
theorem names_are : ∀ x ∈ NAMES, isName x = true := by decide +kernel
theorem tl_joinM {y : Str} {c : Nat} (hy : c ∉ TL.tl y) : ∀ {ws : List Str}, (∀ x ∈ ws, c ∉ TL.tl x) → c ∉ TL.tl (Txt.join y ws) := by
  intro ws h
  rw [TL.join_eq, TL.tl_join]
  induction ws with
  | nil => simp [TL.joinL]
  | cons a r ih =>
    cases r with
    | nil => simpa [TL.joinL] using h a List.mem_cons_self
    | cons b r =>
      have i := ih fun x hx => h x (List.mem_cons_of_mem _ hx)
      simp only [List.map_cons, TL.joinL, List.mem_append, not_or] at i ⊢
      exact ⟨h a List.mem_cons_self, hy, i⟩
theorem DrawnTabs.good {m : Nat} {tabs : Tabs} (D : DrawnTabs m tabs) : ∀ t ∈ tabs, GoodTab t := fun t ht => by
  obtain ⟨a, b, c, d⟩ := D.cols t ht
  exact ⟨D.names t ht, a, b, d⟩
theorem line_words {t : Str × List Str} (G : GoodTab t) : Txt.split (tabLine t) " " = ("table" : Str) :: t.1 :: t.2 := by
  unfold tabLine
  refine TL.split_join blank_tl (by decide +kernel) (by simp) fun p hp => ?_
  rcases List.mem_cons.mp hp with rfl | hp
  · decide +kernel
  rcases List.mem_cons.mp hp with rfl | hp
  · exact no_blank G.name
  · exact no_blank (G.cols p hp)
theorem text_lines {m : Nat} {tabs : Tabs} (D : DrawnTabs m tabs) : linesOf (schemaText tabs) = tabs.map tabLine := by
  have e : Txt.split (schemaText tabs) "\n" = tabs.map tabLine := by
    unfold schemaText
    refine TL.split_join line_tl (by decide +kernel) (fun z => D.ne (List.map_eq_nil_iff.mp z)) fun p hp => ?_
    obtain ⟨t, ht, rfl⟩ := List.mem_map.mp hp
    have G := D.good t ht
    unfold tabLine
    refine tl_joinM (by decide +kernel) fun x hx => ?_
    rcases List.mem_cons.mp hx with rfl | hx
    · decide +kernel
    rcases List.mem_cons.mp hx with rfl | hx
    · exact no_line G.name
    · exact no_line (G.cols x hx)
  have ne : schemaText tabs ≠ ("" : Str) := fun z => by
    rw [z] at e
    have e2 : Txt.split ("" : Str) "\n" = [("" : Str)] := by decide +kernel
    rw [e2] at e
    cases tabs with
    | nil => exact D.ne rfl
    | cons t r =>
      have z := (List.cons.inj e).1
      have w := line_words (D.good t List.mem_cons_self)
      rw [← z] at w
      have e3 : Txt.split ("" : Str) " " = [("" : Str)] := by decide +kernel
      rw [e3] at w
      have z2 := (List.cons.inj w).2
      cases z2
  unfold linesOf
  rw [if_neg ne, e]
theorem text_tabs {m : Nat} {tabs : Tabs} (D : DrawnTabs m tabs) : (linesOf (schemaText tabs)).map tabOf = tabs := by
  rw [text_lines D, List.map_map]
  have z : ∀ t ∈ tabs, (tabOf ∘ tabLine) t = t := fun t ht => by
    show tabOf (tabLine t) = t
    unfold tabOf
    rw [line_words (D.good t ht)]
    rfl
  rw [List.map_congr_left z]
  exact List.map_id' tabs
theorem tabLine_len {t : Str × List Str} (G : GoodTab t) : (tabLine t).length ≤ 100 := by
  have z := join_len " " ("table" :: t.1 :: t.2)
  have z1 := sum_len (l := t.2) (k := 12) fun x hx => names_len (G.cols x hx)
  have z2 := names_len G.name
  have hf := G.few
  unfold tabLine
  simp only [List.map_cons, List.sum_cons, List.length_cons] at z
  have e5 : ("table" : Str).length = 5 := by decide +kernel
  have e6 : (" " : Str).length = 1 := by decide +kernel
  rw [e5, e6] at z
  omega
theorem text_good {tabs : Tabs} (D : DrawnTabs 4 tabs) : GoodText (schemaText tabs) where
  len := by
    have z := join_len "\n" (tabs.map tabLine)
    have z1 := sum_len (l := tabs.map tabLine) (k := 100) fun x hx => by
      obtain ⟨t, ht, rfl⟩ := List.mem_map.mp hx
      exact tabLine_len (D.good t ht)
    have e6 : ("\n" : Str).length = 1 := by decide +kernel
    have hf := D.few
    unfold schemaText
    rw [e6] at z
    rw [List.length_map] at z z1
    omega
  ne := by rw [text_lines D]; exact fun z => D.ne (List.map_eq_nil_iff.mp z)
  few := by rw [text_lines D, List.length_map]; exact D.few
  size := by
    rw [text_lines D]
    intro l hl
    obtain ⟨t, ht, rfl⟩ := List.mem_map.mp hl
    have G := D.good t ht
    have hl := tabLine_len G
    have hf := G.few
    refine ⟨by omega, by rw [line_words G]; simp only [List.length_cons]; omega, fun y hy => ?_⟩
    have z := part_short hy
    omega
  ok := by
    rw [text_lines D]
    intro l hl
    obtain ⟨t, ht, rfl⟩ := List.mem_map.mp hl
    have G := D.good t ht
    obtain ⟨c1, c2, c3, c4⟩ := D.cols t ht
    rw [line_words G]
    unfold isTableLine
    have h1 : 1 ≤ t.2.length := by
      cases h : t.2 with
      | nil => exact absurd h c1
      | cons _ _ => simp
    rw [Bool.and_eq_true, Bool.and_eq_true]
    refine ⟨⟨?_, ?_⟩, ?_⟩
    · simp
      omega
    · refine List.all_eq_true.mpr fun i hi => ?_
      have hi := List.mem_range.mp hi
      rw [List.getD_eq_getElem?_getD, List.getElem?_eq_getElem hi]
      have hm : ((("table" : Str) :: t.1 :: t.2).drop 1)[i] ∈ t.1 :: t.2 := List.getElem_mem hi
      rcases List.mem_cons.mp hm with h | h
      · show isName _ = true
        rw [Option.getD_some, h]
        exact names_are _ G.name
      · exact names_are _ (c4 _ h)
    · refine decide_eq_true (met_nodup _ ?_ _ (Nat.le_refl _))
      exact c3
  nd := by
    have z : (linesOf (schemaText tabs)).map (fun l => (tabOf l).1) = tabs.map (·.1) := by
      have z := congrArg (List.map (·.1)) (text_tabs D)
      rw [List.map_map] at z
      exact z
    rw [z]
    exact D.nd
end L2.Pf
set_option maxHeartbeats 2000000
namespace L2.Pf
open PySem PySem.Spec PyProof.Rows L2.Ev L2.Tpd L2.Seti L2.Gq L2.Enf L2.Sett L2.Itr L2.Dls L2.Own L2.Ent
/-- how the words of a drawn fact look -/
inductive Form (tabs : Tabs) (x : Str) : Prop
  | table {t : Str × List Str} {wd : Str} : t ∈ tabs → (wd = ("single" : Str) ∨ wd = ("filled" : Str)) → Txt.split x " " = [wd, t.1] → readWords tabs [wd, t.1] = some (wd, (t.1, none), none) → Form tabs x
  | column {t : Str × List Str} {wd y : Str} : t ∈ tabs → y ∈ t.2 → (wd = ("unique" : Str) ∨ wd = ("sorted" : Str)) → Txt.split x " " = [wd, spotOf t.1 y] → readWords tabs [wd, spotOf t.1 y] = some (wd, (t.1, some y), none) → Form tabs x
  | found {t u : Str × List Str} {y z : Str} : t ∈ tabs → y ∈ t.2 → u ∈ tabs → z ∈ u.2 → Txt.split x " " = [("found" : Str), spotOf t.1 y, ("in" : Str), spotOf u.1 z] →
      readWords tabs [("found" : Str), spotOf t.1 y, ("in" : Str), spotOf u.1 z] = some (("found" : Str), (t.1, some y), some (u.1, some z)) → Form tabs x
theorem fact_form {tabs order : Tabs} {x : Str} (G : ∀ t ∈ tabs, GoodTab t) (nd : (tabs.map (·.1)).Nodup) (hp : order.Perm tabs) (h : FactOf order x) : Form tabs x := by
  have m : ∀ {t}, t ∈ order → t ∈ tabs := fun h => hp.mem_iff.mp h
  have tb : ∀ {t : Str × List Str} {w x : Str}, t ∈ tabs → x = w ++ " " ++ t.1 → (w = ("single" : Str) ∨ w = ("filled" : Str)) → Form tabs x := fun {t w x} ht hx hw => by
    have nb : 32 ∉ TL.tl w := by rcases hw with rfl | rfl <;> decide +kernel
    have hi : inV (.str w) k_OF_TABLES = true := by rcases hw with rfl | rfl <;> decide +kernel
    refine .table ht hw (words2 hx nb (no_blank (G t ht).name)) ?_
    unfold readWords
    rw [if_pos ⟨rfl, hi⟩]
    show (readTable tabs t.1).map _ = _
    have z : readTable tabs t.1 = some (t.1, none) := by
      unfold readTable
      refine if_pos ?_
      have z2 : inV (.str t.1) ((tabs.map (·.1)).map V.str) = true := mem_inV.mpr (List.mem_map.mpr ⟨t, ht, rfl⟩)
      rw [List.map_map] at z2; exact z2
    rw [z]; rfl
  have cl : ∀ {t : Str × List Str} {w x y : Str}, t ∈ tabs → y ∈ t.2 → x = w ++ " " ++ spotOf t.1 y → (w = ("unique" : Str) ∨ w = ("sorted" : Str)) → Form tabs x := fun {t w x y} ht hy hx hw => by
    have nb : 32 ∉ TL.tl w := by rcases hw with rfl | rfl <;> decide +kernel
    have hi : inV (.str w) k_OF_COLUMNS = true := by rcases hw with rfl | rfl <;> decide +kernel
    have hi2 : ¬ inV (.str w) k_OF_TABLES = true := by rcases hw with rfl | rfl <;> decide +kernel
    refine .column ht hy hw (words2 hx nb (spot_nb G ht hy)) ?_
    unfold readWords
    rw [if_neg (fun z => hi2 z.2), if_pos ⟨rfl, hi⟩]
    show (readColumn tabs (spotOf t.1 y)).map _ = _
    rw [spot_read G nd ht hy]; rfl
  cases h with
  | single ht => exact tb (m ht) (by rw [show ("single " : Str) = ("single" : Str) ++ " " by decide +kernel]) (.inl rfl)
  | filled ht => exact tb (m ht) (by rw [show ("filled " : Str) = ("filled" : Str) ++ " " by decide +kernel]) (.inr rfl)
  | unique ht hy => exact cl (m ht) hy (by rw [show ("unique " : Str) = ("unique" : Str) ++ " " by decide +kernel]) (.inl rfl)
  | sorted ht hy => exact cl (m ht) hy (by rw [show ("sorted " : Str) = ("sorted" : Str) ++ " " by decide +kernel]) (.inr rfl)
  | found hij e1 e2 hy hz =>
    have ht := m (List.mem_of_getElem? e1)
    have hu := m (List.mem_of_getElem? e2)
    refine .found ht hy hu hz (words4 link_text (by decide +kernel) (spot_nb G ht hy) (by decide +kernel) (spot_nb G hu hz)) ?_
    rw [rw4e, spot_read G nd ht hy, spot_read G nd hu hz]; rfl
def ColForm (tabs : Tabs) (x : Str) (t : Str × List Str) (wd y : Str) (rest : List Str) (f : Fact) : Prop := t ∈ tabs ∧ y ∈ t.2 ∧ Txt.split x " " = wd :: spotOf t.1 y :: rest ∧ readWords tabs (wd :: spotOf t.1 y :: rest) = some f ∧ f.1 = wd ∧ f.2.1 = (t.1, some y) ∧ wd ≠ ("single" : Str) ∧ wd ≠ ("filled" : Str) ∧
  ((wd = ("unique" : Str) ∨ wd = ("sorted" : Str)) ∨ (wd ≠ ("unique" : Str) ∧ wd ≠ ("sorted" : Str) ∧ ∃ u z, u ∈ tabs ∧ z ∈ u.2 ∧ rest = [("in" : Str), spotOf u.1 z] ∧ f.2.2 = some (u.1, some z)))
theorem Form.two {tabs : Tabs} {x : Str} (h : Form tabs x) : (∃ (t : Str × List Str) (wd : Str), t ∈ tabs ∧ (wd = ("single" : Str) ∨ wd = ("filled" : Str)) ∧ Txt.split x " " = [wd, t.1] ∧ readWords tabs [wd, t.1] = some (wd, (t.1, none), none)) ∨ ∃ t wd y rest f, ColForm tabs x t wd y rest f := by
  cases h with
  | @table t wd ht hw hs he => exact .inl ⟨t, wd, ht, hw, hs, he⟩
  | @column t wd y ht hy hw hs he => exact .inr ⟨t, wd, y, [], _, ht, hy, hs, he, rfl, rfl, by rcases hw with rfl | rfl <;> decide +kernel, by rcases hw with rfl | rfl <;> decide +kernel, .inl hw⟩
  | @found t u y z ht hy hu hz hs he => exact .inr ⟨t, _, y, _, _, ht, hy, hs, he, rfl, rfl, by decide +kernel, by decide +kernel, .inr ⟨by decide +kernel, by decide +kernel, u, z, hu, hz, rfl, rfl⟩⟩
theorem dot_out : ∀ x ∈ NAMES, (Builtin.Str.occurrences x ("." : Str) 0 x.length 1).isEmpty = true := by decide +kernel
theorem dot_here : ∀ x ∈ NAMES, ∀ y ∈ NAMES, (Builtin.Str.occurrences (spotOf x y) ("." : Str) 0 (spotOf x y).length 1).isEmpty = false := by decide +kernel
theorem spot_split : ∀ x ∈ NAMES, ∀ y ∈ NAMES, Txt.split (spotOf x y) "." = [x, y] := by decide +kernel
theorem inV_int {n : Int} : ∀ {ms : List Int}, inV (.int n) (ms.map V.int) = decide (n ∈ ms)
  | [] => rfl
  | m :: r => by
    have e : inV (.int n) ((m :: r).map V.int) = (eqV (.int m) (.int n) || inV (.int n) (r.map V.int)) := rfl
    have e2 : eqV (.int m) (.int n) = decide (m = n) := by
      by_cases c : m = n
      · subst c; simp [eqV]
      · rw [decide_eq_false c]
        simp [eqV, c]
    rw [e, inV_int (ms := r), e2]
    by_cases c : m = n
    · subst c
      rw [decide_eq_true rfl, decide_eq_true List.mem_cons_self]; rfl
    · rw [decide_eq_false c, Bool.false_or]
      exact decide_eq_decide.mpr ⟨fun h => List.mem_cons_of_mem _ h, fun h => (List.mem_cons.mp h).resolve_left (fun z => c z.symm)⟩
theorem flat_ints (ms : List Int) : (ms.map V.int).all flatV = true := by rw [List.all_map]; exact List.all_eq_true.mpr fun _ _ => rfl
theorem index_facts {cs : List Str} {c : Str} (hc : c ∈ cs) : (cs.map V.str).all flatV = true ∧ (cs.map V.str)[cs.idxOf c]? = some (V.str c) ∧ eqV (.str c) (.str c) = true ∧ ∀ (m : Nat) (z' : V), m < cs.idxOf c → (cs.map V.str)[m]? = some z' → eqV z' (.str c) = false := by
  have hix : cs.idxOf c < cs.length := List.idxOf_lt_length_of_mem hc
  refine ⟨?_, ?_, ?_, ?_⟩
  · rw [List.all_map]; exact List.all_eq_true.mpr fun _ _ => rfl
  · rw [List.getElem?_map, List.getElem?_eq_getElem hix, List.getElem_idxOf hix]; rfl
  · rw [eqV_str]; exact decide_eq_true rfl
  · intro m z' hm e
    rw [List.getElem?_map] at e
    obtain ⟨x, e1, rfl⟩ := Option.map_eq_some_iff.mp e
    obtain ⟨hm2, e2⟩ := List.getElem?_eq_some_iff.mp e1
    rw [eqV_str]
    refine decide_eq_false fun z => ?_
    have z2 := List.not_of_lt_findIdx (p := (· == c)) (xs := cs) hm
    rw [e2, z] at z2
    simp at z2
end L2.Pf
set_option maxHeartbeats 2000000
namespace L2.Pf
open PySem PySem.Spec PyProof.Rows L2.Ev L2.Tpd L2.Seti L2.Gq L2.Enf L2.Sett L2.Itr L2.Dls L2.Own L2.Ent
section
variable {P : Program} {w : World} {K : PySem.W.Frag} {mg : Str → Option Value} {base : Heap}
def sp_law_keeps : Sp := fun vs H Q _ => ∃ (a d : Addr) (x : Str) (tabs : Tabs) (dat : Dat), vs = [.ref a, .str x, .ref d] ∧ PlainAt H a tabs ∧ DatAt H d dat ∧ DatOk tabs dat ∧ DrawnTabs 4 tabs ∧ Form tabs x ∧ x.length ≤ 1000 ∧ ∀ H', Same H H' → Q (.bl (lineKept tabs dat x)) H'
theorem ok_lawkeeps (T : TX K mg) (B : TB T base) : FnOk P w K mg base CX0 2 T.a_lawkeeps T.fd_lawkeeps p_lawkeeps sp_law_keeps := by
  refine T.F_lawkeeps.ok sc_lawkeeps (fun vs H Q E h => ?_) (fun cdv A outer s H vs Q E hr h => ?_)
  · obtain ⟨a, d, x, tabs, dat, rfl, _⟩ := h
    rfl
  · obtain ⟨a, d, x, tabs, dat, rfl, hP, hD, hO, hT, hF, hx, k⟩ := h
    refine ⟨_, (pss_cons (ps_set (i := 3) sc_lawkeeps.nd rfl (Or.inl rfl) (pe_split (pv 1) pe_str))
  (pss_cons (ps_asg (pe_ifExp (pt_cmpR op_in_str pe_str (pe_ix ix_list (pv 3) pe_int (fun _ _ => rfl)) (by rfl)) (pe_split (pe_ix ix_list (pv 3) pe_int (fun _ _ => rfl)) pe_str) (pe_lstS (pa_cons (pe_ix ix_list (pv 3) pe_int (fun _ _ => rfl)) (pa_cons pe_str pa_nil)))) (pg_lst rfl (pgs_cons (pg_name (i := 4) sc_lawkeeps.nd rfl (Or.inl rfl)) (pgs_cons (pg_name (i := 5) sc_lawkeeps.nd rfl (Or.inl rfl)) pgs_nil))))
  (pss_cons (ps_if (pt_cmpR op_in_seq (pe_ix ix_list (pv 3) pe_int (fun _ _ => rfl)) (pe_tupS (pa_cons pe_str (pa_cons pe_str pa_nil))) (by rfl)) (pss_one (ps_ret (pe_ifExp (pt_cmpR op_eq (pe_ix ix_list (pv 3) pe_int (fun _ _ => rfl)) pe_str (nomark _)) (pe_cmpR op_lt (pe_callB call_len_seq (by rfl) T.z_len (by decide +kernel) (pa_cons (pe_dget (hu_of hr) (pv 2) (pv 4) (fun _ _ => rfl)) pa_nil)) pe_int (nomark _)) (pe_cmpR (op_neNil hr.units0) (pe_dget (hu_of hr) (pv 2) (pv 4) (fun _ _ => rfl)) (pe_lstS pa_nil) (nomark _))))) pss_nil)
  (pss_cons (ps_set (i := 6) sc_lawkeeps.nd rfl (Or.inr rfl) (pe_bm PySem.F.plainAttrs_list PySem.F.slot_list_index PySem.F.type_list_index mt_index (pe_call (ok_columns T B) (hr.mono (by decide)) rfl T.g_columns T.F_columns.kp T.b_columns .nil pass0 (pa_cons (pv 0) (pa_cons (pv 4) pa_nil))) (pa_cons (pv 5) pa_nil)))
  (pss_cons (ps_setLc (i := 7) (own := [("_law_row", 8)]) (g := gName 8) (tt := tYes) rfl sc_lawkeeps.nd rfl rfl (sw_true rfl rfl rfl (by decide +kernel)) (pi_list (pe_dget (hu_of hr) (pv 2) (pv 4) (fun _ _ => rfl))) (blkOk_by (own := [("_law_row", 8)]) (N := n_lawkeeps) (sc := defScope s_lawkeeps) (by decide +kernel)) (fun _ _ _ _ _ => (pg_name (i := 8) sc_lawkeeps.nd rfl (Or.inl rfl))) (fun _ _ _ _ _ => pts_nil) (fun _ _ _ _ _ => (pe_ix (ix_tupK (K := K)) (pv 8) (pv 6) (fun _ _ => rfl))))
  (pss_cons (ps_if (pt_cmpR op_eq (pe_ix ix_list (pv 3) pe_int (fun _ _ => rfl)) pe_str (nomark _)) (pss_one (ps_ret (pe_cmpR op_eq (pe_callB call_len_seq (by rfl) T.z_len (by decide +kernel) (pa_cons (pv 7) pa_nil)) (pe_lenSetN rfl (by rfl) T.z_len (by rfl) T.z_set (pv 7)) (nomark _)))) pss_nil)
  (pss_cons (ps_if (pt_cmpR op_eq (pe_ix ix_list (pv 3) pe_int (fun _ _ => rfl)) pe_str (nomark _)) (pss_one (ps_ret (pe_cmpR (op_eqD hr.units) (pv 7) (pe_callB cr_sorted (by rfl) T.z_sorted (by decide +kernel) (pa_cons (pv 7) pa_nil)) (nomark _)))) pss_nil)
  (pss_cons (ps_asg (pe_split (pe_ix ix_list (pv 3) pe_int (fun _ _ => rfl)) pe_str) (pg_lst rfl (pgs_cons (pg_name (i := 9) sc_lawkeeps.nd rfl (Or.inr rfl)) (pgs_cons (pg_name (i := 10) sc_lawkeeps.nd rfl (Or.inr rfl)) pgs_nil))))
  (pss_cons (ps_set (i := 11) sc_lawkeeps.nd rfl (Or.inr rfl) (pe_lc (own := [("_law_row", 8)]) (g := gName 8) (tt := tYes) rfl sc_lawkeeps.nd (pi_list (pe_dget (hu_of hr) (pv 2) (pv 9) (fun _ _ => rfl))) (blkOk_by (own := [("_law_row", 8)]) (N := n_lawkeeps) (sc := defScope s_lawkeeps) (by decide +kernel)) (fun _ _ _ _ _ => (pg_name (i := 8) sc_lawkeeps.nd rfl (Or.inl rfl))) (fun _ _ _ _ _ => pts_nil) (fun _ _ _ _ _ => (pe_ix (ix_tupK (K := K)) (pv 8) (pe_bmK (K := K) rfl PySem.F.plainAttrs_list PySem.F.slot_list_index PySem.F.type_list_index (mt_indexK (K := K)) (pe_call (ok_columns T B) (hr.mono (by decide)) rfl T.g_columns T.F_columns.kp T.b_columns .nil pass0 (pa_cons (pv 0) (pa_cons (pv 9) pa_nil))) (pa_cons (pv 10) pa_nil)) (fun _ _ => rfl)))))
  (pss_one (ps_ret (pe_cmpR (op_eqNil hr.units0) (pe_lc (own := [("_law_value", 12)]) (g := gName 12) (tt := _) rfl sc_lawkeeps.nd (pi_list (pv 7)) (blkOk_by (own := [("_law_value", 12)]) (N := n_lawkeeps) (sc := defScope s_lawkeeps) (by decide +kernel)) (fun _ _ _ _ _ => (pg_name (i := 12) sc_lawkeeps.nd rfl (Or.inl rfl))) (fun _ _ _ _ _ => pts_one (pt_cmpR (op_notInK (K := K)) (pv 12) (pv 11) (by rfl))) (fun _ _ _ _ _ => (pv 12))) (pe_lstS pa_nil) (nomark _))))))))))))), ?_⟩
    have eqs : ∀ (x y : Str), decide (V.str x = V.str y) = decide (x = y) := fun x y => by
      by_cases h : x = y
      · rw [decide_eq_true h, decide_eq_true (by rw [h])]
      · rw [decide_eq_false h, decide_eq_false (fun z => h (by cases z; rfl))]
    have G := hT.good
    have h4 := hT.few
    refine ⟨_, rfl, ⟨_, rfl⟩, _, _, rfl, rfl, by decide, by rw [sizeLine_eq]; omega, fun p0 np0 => ?_⟩
    have s1 : Same H (upd H p0 (.lst ((Txt.split x " ").map V.str))) := Same.new (Same.refl _) np0
    have e1 : (upd H p0 (.lst ((Txt.split x " ").map V.str))) p0 = some (.lst ((Txt.split x " ").map V.str)) := upd_same
    have dg : ∀ {x : Str} {cs : List Str}, colsOf tabs x = some cs → ∃ (l : Addr) (rs : List (List Int)) (qs : List Addr), rowsOf dat x = some rs ∧ rowsD dat x = rs ∧ rs.length < 64 ∧ (∀ r ∈ rs, r.length = cs.length) ∧ H l = some (.lst (qs.map V.ref)) ∧ Paired (RowAt H) qs rs ∧ ∀ H', Same H H' → DGet H' d (.str x) (some (.ref l)) := fun {x cs} e => by
      obtain ⟨rs, r0, r1, r2⟩ := hO.col e
      obtain ⟨kvs, d1, d2⟩ := hD
      have d2 : Paired (DatF H) kvs dat := d2
      rcases dat_rows d2 x with ⟨v0, z⟩ | ⟨l, rs', v0, z, qs, hl, hqs⟩
      · rw [r0] at z; cases z
      rw [r0] at z
      cases z
      refine ⟨l, rs, qs, r0, by unfold rowsD; rw [r0]; rfl, r2, r1, hl, hqs, fun H' s => ?_⟩
      have z := DGet.k (k := .inr x) (s _ _ d1)
      rw [v0] at z; exact z
    have nd := hT.nd
    have splen : ∀ {t : Str × List Str} {y : Str}, t ∈ tabs → y ∈ t.2 → (spotOf t.1 y).length + 2 ≤ sizeLine := fun {t y} ht hy => by
      have z : ∀ x ∈ NAMES, ∀ y ∈ NAMES, (spotOf x y).length ≤ 100 := by decide +kernel
      have z2 := z _ (G _ ht).name _ ((G _ ht).cols y hy)
      rw [sizeLine_eq]; omega
    rcases hF.two with ⟨t, wd, ht, hw, hs, he⟩ | ⟨t, wd, y, rest, f, ht, hy, hs, he, hf1, hf2, c1, c2, hcase⟩
    · have k : ∀ H', Same H H' → Q (.bl (keepsB tabs dat (wd, (t.1, none), none))) H' := fun H' s => by
        have z := k H' s
        unfold lineKept at z
        rw [hs, he] at z
        exact z
      rw [hs] at s1 e1 ⊢
      generalize upd H p0 (.lst ([wd, t.1].map V.str)) = H1 at s1 e1
      obtain ⟨l, rs, qs, r0, r1, r2, r3, hl, hqs, hdg⟩ := dg (cols_of nd ht)
      have hql := Paired.length hqs
      refine ⟨_, rfl, p0, _, 1, _, rfl, rfl, SqL.of e1, atI_nat (k := 1) rfl, _, _, rfl, rfl, _, rfl, ?_⟩
      rw [dot_out _ (G t ht).name]
      refine iteF ⟨_, rfl, p0, _, 1, _, rfl, rfl, SqL.of e1, atI_nat (k := 1) rfl, (by show 2 ≤ sizeLine; decide), fun l1 H2 n2 s2 e2 => ?_⟩
      refine ⟨l1, _, rfl, SqL.of e2, rfl, _, _, rfl, _, _, rfl, rfl, ?_⟩
      have s02 := s1.trans s2
      refine ⟨_, rfl, p0, _, 0, _, rfl, rfl, SqL.of (s2 _ _ e1), atI_nat (k := 0) rfl, (by show 2 ≤ sizeLine; decide), fun l3 H3 n3 s3 e3 => ?_⟩
      have s03 := s02.trans s3
      refine ⟨l3, _, rfl, .inr (SqT.of e3), rfl, rfl, _, rfl, ?_⟩
      have hin : inV (.str wd) [V.str "single", V.str "filled"] = true := by rcases hw with rfl | rfl <;> rfl
      have ep3 := s3 _ _ (s2 _ _ e1)
      rw [show (if false = true then !inV (.str wd) [V.str "single", V.str "filled"] else inV (.str wd) [V.str "single", V.str "filled"]) = true from hin]
      refine iteT ⟨_, rfl, p0, _, 0, _, rfl, rfl, SqL.of ep3, atI_nat (k := 0) rfl, rfl, _, rfl, ?_⟩
      rw [eqs]
      have z := k H3 s03
      unfold keepsB at z
      by_cases c1 : wd = ("single" : Str)
      · rw [decide_eq_true c1]
        rw [if_pos c1, show rowsD dat (wd, (t.1, (none : Option Str)), (none : Option Place)).2.1.1 = rs from r1] at z
        refine iteT ⟨_, rfl, _, rfl, d, .ref l, rfl, hdg _ s03, l, _, rfl, .inl (SqL.of (s03 _ _ hl)), _, 2, rfl, rfl, ?_⟩
        have e : decide (((qs.map V.ref).length : Int) < 2) = decide (rs.length ≤ 1) := by rw [List.length_map, hql]; exact decide_eq_decide.mpr ⟨fun h => by omega, fun h => by omega⟩
        have z2 : Q (.bl (decide (((qs.map V.ref).length : Int) < 2))) H3 := by rw [e]; exact z
        exact z2
      · rw [decide_eq_false c1]
        have c2 := hw.resolve_left c1
        rw [if_neg c1, if_pos c2, show rowsD dat (wd, (t.1, (none : Option Str)), (none : Option Place)).2.1.1 = rs from r1] at z
        refine iteF ⟨_, rfl, _, rfl, d, .ref l, rfl, hdg _ s03, (by show 0 ≤ sizeLine; decide), fun l4 H4 n4 s4 e4 => ?_⟩
        refine ⟨l, l4, _, rfl, rfl, SqL.of (s4 _ _ (s03 _ _ hl)), SqL.of e4, ?_⟩
        have z := k H4 (s03.trans s4)
        unfold keepsB at z
        rw [if_neg c1, if_pos c2, show rowsD dat (wd, (t.1, (none : Option Str)), (none : Option Place)).2.1.1 = rs from r1] at z
        have e : (!(qs.map V.ref).isEmpty) = decide (1 ≤ rs.length) := by
          rw [← hql]
          cases qs <;> simp
        have z2 : Q (.bl (!(qs.map V.ref).isEmpty)) H4 := by rw [e]; exact z
        exact z2
    · have k : ∀ H', Same H H' → Q (.bl (keepsB tabs dat f)) H' := fun H' s => by
        have z := k H' s
        unfold lineKept at z
        rw [hs, he] at z
        exact z
      rw [hs] at s1 e1 ⊢
      generalize upd H p0 (.lst ((wd :: spotOf t.1 y :: rest).map V.str)) = H1 at s1 e1
      obtain ⟨l, rs, qs, r0, r1, r2, r3, hl, hqs, hdg⟩ := dg (cols_of nd ht)
      have hql := Paired.length hqs
      have yN := (G _ ht).cols y hy
      refine ⟨_, rfl, p0, _, 1, _, rfl, rfl, SqL.of e1, atI_nat (k := 1) rfl, _, _, rfl, rfl, _, rfl, ?_⟩
      rw [dot_here _ (G t ht).name _ yN]
      refine iteT ⟨_, rfl, p0, _, 1, _, rfl, rfl, SqL.of e1, atI_nat (k := 1) rfl, ⟨_, rfl⟩, _, _, rfl, rfl, by decide, splen ht hy, fun l1 n1 => ?_⟩
      have s2 : Same H1 (upd H1 l1 (.lst ((Txt.split (spotOf t.1 y) ".").map V.str))) := Same.new (Same.refl _) n1
      have e2 : (upd H1 l1 (.lst ((Txt.split (spotOf t.1 y) ".").map V.str))) l1 = some (.lst ((Txt.split (spotOf t.1 y) ".").map V.str)) := upd_same
      rw [spot_split _ (G t ht).name _ yN] at s2 e2 ⊢
      generalize upd H1 l1 (.lst ([t.1, y].map V.str)) = H2 at s2 e2
      refine ⟨l1, _, rfl, SqL.of e2, rfl, _, _, rfl, _, _, rfl, rfl, ?_⟩
      have s02 := s1.trans s2
      refine ⟨_, rfl, p0, _, 0, _, rfl, rfl, SqL.of (s2 _ _ e1), atI_nat (k := 0) rfl, (by show 2 ≤ sizeLine; decide), fun l3 H3 n3 s3 e3 => ?_⟩
      have s03 := s02.trans s3
      refine ⟨l3, _, rfl, .inr (SqT.of e3), rfl, rfl, _, rfl, ?_⟩
      have hin : inV (.str wd) [V.str "single", V.str "filled"] = false := by
        cases c : inV (.str wd) [V.str "single", V.str "filled"] with
        | false => rfl
        | true =>
          have z := mem_inV (x := wd) (ys := ["single", "filled"]) |>.mp c
          simp only [List.mem_cons, List.not_mem_nil, or_false] at z
          exact (z.elim c1 c2).elim
      have ep3 := s3 _ _ (s2 _ _ e1)
      rw [show (if false = true then !inV (.str wd) [V.str "single", V.str "filled"] else inV (.str wd) [V.str "single", V.str "filled"]) = false from hin]
      refine iteF ?_
      refine ⟨_, rfl, _, rfl, a, t.1, tabs, t.2, rfl, hP.keep s03, h4, cols_of nd ht, fun H4 c s4 e4 => ?_⟩
      obtain ⟨i1, i2, i3, i4⟩ := index_facts hy
      refine ⟨.inl ⟨rfl, _, SqL.of e4⟩, _, rfl, c, _, .str y, t.2.idxOf y, .str y, rfl, rfl, SqL.of e4, rfl, i1, i2, i3, i4, ?_⟩
      have s04 := s03.trans s4
      have hix : t.2.idxOf y < t.2.length := List.idxOf_lt_length_of_mem hy
      refine ⟨_, rfl, _, rfl, d, .ref l, rfl, hdg _ s04, l, rfl, ⟨_, SqL.of (s04 _ _ hl)⟩, fun D hD => ?_⟩
      refine lc_grow (n := rs.length) hD (fun i acc H' => acc = (colVals (rs.take i) (t.2.idxOf y)).map V.int) (fun i acc H' o hp _ => hp) (fun _ _ => rfl)
        (fun i H' hi s1 => ⟨_, V.ref (qs[i]'(by omega)), SqL.of (s1 _ _ (s04 _ _ hl)), by rw [List.getElem?_map, List.getElem?_eq_getElem (by omega)]; rfl⟩) (fun H' s1 => ⟨_, SqL.of (s1 _ _ (s04 _ _ hl)), by rw [List.length_map]; omega⟩) (small1000 (by omega)) (fun i acc H' F G hF hG' hi s1 hacc hp v H2 yl => ?_) (fun acc H5 s5 hacc hp => ?_)
      · obtain ⟨eH, ev⟩ := yl
        subst eH
        have hiq : i < qs.length := by omega
        have ev := ev _ (SqL.of (s1 _ _ (s04 _ _ hl)))
        rw [List.getElem?_map, List.getElem?_eq_getElem hiq] at ev
        cases ev
        have hra : RowAt H qs[i] rs[i] := paired_get hqs (List.getElem?_eq_getElem hiq) (List.getElem?_eq_getElem hi)
        have hri : t.2.idxOf y < rs[i].length := by rw [r3 _ (List.getElem_mem hi)]; exact hix
        refine ⟨rfl, _, rfl, _, rfl, qs[i], _, ((t.2.idxOf y : Nat) : Int), V.int rs[i][t.2.idxOf y], rfl, rfl, SqT.of (s1 _ _ (s04 _ _ hra)), atI_nat (by rw [List.getElem?_map, List.getElem?_eq_getElem hri]; rfl), hF _ _ (Same.refl _) ?_⟩
        rw [hp, List.take_add_one, List.getElem?_eq_getElem hi]
        unfold colVals
        rw [List.map_append, List.map_append]
        show _ = _ ++ [V.int (rs[i].getD (t.2.idxOf y) 0)]
        rw [List.getD_eq_getElem?_getD, List.getElem?_eq_getElem hri]; rfl
      rw [List.take_length] at hp
      subst hp
      have s05 := s04.trans s5
      have hv : valsD tabs dat (t.1, some y) = colVals rs (t.2.idxOf y) := by
        unfold valsD rowsD
        rw [r0, cols_of nd ht]; rfl
      rw [← hv] at hacc
      have hr64 : (valsD tabs dat (t.1, some y)).length < 64 := by rw [hv]; unfold colVals; rw [List.length_map]; exact r2
      have ep5 := s5 _ _ (s4 _ _ ep3)
      refine ⟨_, rfl, p0, _, 0, _, rfl, rfl, SqL.of ep5, atI_nat (k := 0) rfl, rfl, _, rfl, ?_⟩
      rw [eqs]
      have kk : ∀ H', Same H H' → Q (.bl (if wd = ("unique" : Str) then decide ((valsD tabs dat (t.1, some y)).Nodup)
          else if wd = ("sorted" : Str) then decide ((valsD tabs dat (t.1, some y)).Pairwise (· ≤ ·))
          else (valsD tabs dat (t.1, some y)).all fun n => decide (n ∈ valsD tabs dat (f.2.2.getD (Str.empty, none))))) H' := fun H' s => by
        have z := k H' s
        unfold keepsB at z
        rw [hf1, hf2, if_neg c1, if_neg c2] at z
        exact z
      by_cases c3 : wd = ("unique" : Str)
      · rw [decide_eq_true c3]
        have z := kk H5 s05
        rw [if_pos c3] at z
        refine iteT ⟨_, rfl, D, _, rfl, .inl (SqL.of hacc), _, rfl, D, _, rfl, SqL.of hacc, by unfold scanBound; omega, rfl, ?_⟩
        have e : decide (V.int (((valsD tabs dat (t.1, some y)).map V.int).length : Nat) = V.int ((dist (valsD tabs dat (t.1, some y))).length : Nat)) = decide ((valsD tabs dat (t.1, some y)).Nodup) := by
          rw [List.length_map]
          refine decide_eq_decide.mpr ⟨fun h => (dist_len _).mp (by have z2 := V.int.inj h; omega), fun h => by rw [(dist_len _).mpr h]⟩
        have z2 : Q (.bl (decide (V.int (((valsD tabs dat (t.1, some y)).map V.int).length : Nat) = V.int ((dist (valsD tabs dat (t.1, some y))).length : Nat)))) H5 := by rw [e]; exact z
        exact z2
      rw [decide_eq_false c3]
      refine iteF ⟨_, rfl, p0, _, 0, _, rfl, rfl, SqL.of ep5, atI_nat (k := 0) rfl, rfl, _, rfl, ?_⟩
      rw [eqs]
      by_cases c4 : wd = ("sorted" : Str)
      · rw [decide_eq_true c4]
        refine iteT ⟨_, rfl, _, rfl, D, _, rfl, SqL.of hacc, hr64, fun ns' pp hperm hsrt npp => ?_⟩
        have s6 : Same H5 (upd H5 pp (.lst (ns'.map V.int))) := Same.new (Same.refl _) npp
        refine ⟨_, _, dp_ints (SqL.of (s6 _ _ hacc)), dp_ints (SqL.of upd_same), shaped_ints _, shaped_ints _, ?_⟩
        rw [eqv_ints, sorted_eq hperm hsrt]
        have z := kk _ (s05.trans s6)
        rw [if_neg c3, if_pos c4] at z
        exact z
      rw [decide_eq_false c4]
      obtain ⟨u, z0, hu, hz, rfl, hf3⟩ : ∃ u z, u ∈ tabs ∧ z ∈ u.2 ∧ rest = [("in" : Str), spotOf u.1 z] ∧ f.2.2 = some (u.1, some z) := by
        rcases hcase with h | ⟨_, _, h⟩
        · exact (h.elim c3 c4).elim
        · exact h
      refine iteF ⟨_, rfl, p0, _, 3, _, rfl, rfl, SqL.of ep5, atI_nat (k := 3) rfl, ⟨_, rfl⟩, _, _, rfl, rfl, by decide, splen hu hz, fun l6 n6 => ?_⟩
      have uN := (G _ hu).cols z0 hz
      have s6 : Same H5 (upd H5 l6 (.lst ((Txt.split (spotOf u.1 z0) ".").map V.str))) := Same.new (Same.refl _) n6
      have e6 : (upd H5 l6 (.lst ((Txt.split (spotOf u.1 z0) ".").map V.str))) l6 = some (.lst ((Txt.split (spotOf u.1 z0) ".").map V.str)) := upd_same
      rw [spot_split _ (G u hu).name _ uN] at s6 e6 ⊢
      generalize upd H5 l6 (.lst ([u.1, z0].map V.str)) = H6 at s6 e6
      refine ⟨l6, _, rfl, SqL.of e6, rfl, _, _, rfl, _, _, rfl, rfl, ?_⟩
      have s06 := s05.trans s6
      obtain ⟨l', rs', qs', r0', r1', r2', r3', hl', hqs', hdg'⟩ := dg (cols_of nd hu)
      have hql' := Paired.length hqs'
      have hix' : u.2.idxOf z0 < u.2.length := List.idxOf_lt_length_of_mem hz
      obtain ⟨i1', i2', i3', i4'⟩ := index_facts hz
      refine ⟨_, rfl, _, rfl, d, .ref l', rfl, hdg' _ s06, l', rfl, ⟨_, SqL.of (s06 _ _ hl')⟩, fun D2 hD2 => ?_⟩
      refine lc_grow (n := rs'.length) hD2 (fun i acc H' => acc = (colVals (rs'.take i) (u.2.idxOf z0)).map V.int) (fun i acc H' o hp _ => hp) (fun _ _ => rfl)
        (fun i H' hi s1 => ⟨_, V.ref (qs'[i]'(by omega)), SqL.of (s1 _ _ (s06 _ _ hl')), by rw [List.getElem?_map, List.getElem?_eq_getElem (by omega)]; rfl⟩) (fun H' s1 => ⟨_, SqL.of (s1 _ _ (s06 _ _ hl')), by rw [List.length_map]; omega⟩) (small1000 (by omega)) (fun i acc H' F G' hF hG' hi s1 hacc' hp v H2' yl => ?_) (fun acc H7 s7 hacc' hp => ?_)
      · obtain ⟨eH, ev⟩ := yl
        subst eH
        have hiq : i < qs'.length := by omega
        have ev := ev _ (SqL.of (s1 _ _ (s06 _ _ hl')))
        rw [List.getElem?_map, List.getElem?_eq_getElem hiq] at ev
        cases ev
        have hra : RowAt H qs'[i] rs'[i] := paired_get hqs' (List.getElem?_eq_getElem hiq) (List.getElem?_eq_getElem hi)
        have hri : u.2.idxOf z0 < rs'[i].length := by rw [r3' _ (List.getElem_mem hi)]; exact hix'
        refine ⟨rfl, _, rfl, _, rfl, _, rfl, a, u.1, tabs, u.2, rfl, hP.keep (s06.trans s1), h4, cols_of nd hu, fun H8 c8 s8 e8 => ?_⟩
        refine ⟨.inl ⟨rfl, _, SqL.of e8⟩, _, rfl, c8, _, .str z0, u.2.idxOf z0, .str z0, rfl, rfl, SqL.of e8, rfl, i1', i2', i3', i4', ?_⟩
        refine ⟨qs'[i], _, ((u.2.idxOf z0 : Nat) : Int), V.int rs'[i][u.2.idxOf z0], rfl, rfl, SqT.of (s8 _ _ (s1 _ _ (s06 _ _ hra))), atI_nat (by rw [List.getElem?_map, List.getElem?_eq_getElem hri]; rfl), hF _ _ s8 ?_⟩
        rw [hp, List.take_add_one, List.getElem?_eq_getElem hi]
        unfold colVals
        rw [List.map_append, List.map_append]
        show _ = _ ++ [V.int (rs'[i].getD (u.2.idxOf z0) 0)]
        rw [List.getD_eq_getElem?_getD, List.getElem?_eq_getElem hri]; rfl
      rw [List.take_length] at hp
      subst hp
      have s07 := s06.trans s7
      have hv' : valsD tabs dat (u.1, some z0) = colVals rs' (u.2.idxOf z0) := by
        unfold valsD rowsD
        rw [r0', cols_of nd hu]; rfl
      rw [← hv'] at hacc'
      rw [hf3] at kk
      have hacc7 := s7 _ _ (s6 _ _ hacc)
      refine ⟨_, rfl, D, rfl, ⟨_, SqL.of hacc7⟩, fun D3 hD3 => ?_⟩
      refine lc_grow (n := (valsD tabs dat (t.1, some y)).length) hD3 (fun i acc H' => acc.isEmpty = ((valsD tabs dat (t.1, some y)).take i).all fun n => decide (n ∈ valsD tabs dat (u.1, some z0))) (fun i acc H' o hp _ => hp) (fun _ _ => rfl)
        (fun i H' hi s1 => ⟨_, V.int ((valsD tabs dat (t.1, some y))[i]'hi), SqL.of (s1 _ _ hacc7), by rw [List.getElem?_map, List.getElem?_eq_getElem hi]; rfl⟩) (fun H' s1 => ⟨_, SqL.of (s1 _ _ hacc7), by rw [List.length_map]; exact Nat.le_refl _⟩) (small1000 (by omega)) (fun i acc H' F G' hF hG' hi s1 hacc3 hp v H2' yl => ?_) (fun acc H8 s8 hacc3 hp => ?_)
      · obtain ⟨eH, ev⟩ := yl
        subst eH
        have ev := ev _ (SqL.of (s1 _ _ hacc7))
        rw [List.getElem?_map, List.getElem?_eq_getElem hi] at ev
        cases ev
        have step : ((valsD tabs dat (t.1, some y)).take (i + 1)).all (fun n => decide (n ∈ valsD tabs dat (u.1, some z0))) = (((valsD tabs dat (t.1, some y)).take i).all (fun n => decide (n ∈ valsD tabs dat (u.1, some z0))) && decide ((valsD tabs dat (t.1, some y))[i] ∈ valsD tabs dat (u.1, some z0))) := by
          rw [List.take_add_one, List.getElem?_eq_getElem hi, List.all_append]
          simp
        refine ⟨rfl, _, rfl, _, rfl, D2, _, rfl, .inl (SqL.of (s1 _ _ hacc')), rfl, flat_ints _, _, rfl, ?_⟩
        rw [if_pos rfl, inV_int]
        by_cases c : (valsD tabs dat (t.1, some y))[i] ∈ valsD tabs dat (u.1, some z0)
        · rw [decide_eq_true c]
          refine iteF (hG' _ (Same.refl _) ?_)
          rw [step, decide_eq_true c, Bool.and_true]; exact hp
        · rw [decide_eq_false c]
          refine iteT ⟨_, rfl, hF _ _ (Same.refl _) ?_⟩
          rw [step, decide_eq_false c, Bool.and_false]
          cases acc <;> rfl
      rw [List.take_length] at hp
      refine ⟨(by show 0 ≤ sizeLine; decide), fun l9 H9 n9 s9 e9 => ?_⟩
      refine ⟨D3, l9, _, rfl, rfl, SqL.of (s9 _ _ hacc3), SqL.of e9, ?_⟩
      have z := kk H9 ((s07.trans s8).trans s9)
      rw [if_neg c3, if_neg c4] at z
      have z2 : Q (.bl acc.isEmpty) H9 := by rw [hp]; exact z
      exact z2
end
end L2.Pf
set_option maxHeartbeats 2000000
namespace L2.Pf
open PySem PySem.Spec PyProof.Rows L2.Ev L2.Tpd L2.Seti L2.Gq L2.Enf L2.Sett L2.Itr L2.Dls L2.Own L2.Ent
section
variable {P : Program} {w : World} {K : PySem.W.Frag} {mg : Str → Option Value} {base : Heap}
def sp_new_integer : Sp := fun vs H Q _ => ∃ (p c : Addr) (ns : List Int) (n : Nat), vs = [.ref p] ∧ Pen H p c ns n ∧ n ≤ 2 ^ 49 ∧ ∀ (k : Int) H', Pen H' p c ns (n + 4) → But p H H' → Q (.int k) H'
theorem ok_new_integer (T : TX K mg) (B : TB T base) : FnOk P w K mg base CX0 2 T.a_new_integer T.fd_new_integer p_new_integer sp_new_integer := by
  refine T.F_new_integer.ok sc_new_integer (fun vs H Q E h => ?_) (fun cdv A outer s H vs Q E hr h => ?_)
  · obtain ⟨p, c, ns, n, rfl, _⟩ := h
    rfl
  · obtain ⟨p, c, ns, n, rfl, hp, hn, k⟩ := h
    refine ⟨_, (pss_cons (ps_if (pt_cmpR op_gt (pe_call (ok_draw T B) (hr.mono (by decide)) rfl T.g_draw T.F_draw.kp T.b_draw .nil pass0 (pa_cons (pv 0) (pa_cons pe_int pa_nil))) pe_int (nomark _)) (pss_one (ps_ret (pe_op op_sub (pe_call (ok_draw T B) (hr.mono (by decide)) rfl T.g_draw T.F_draw.kp T.b_draw .nil pass0 (pa_cons (pv 0) (pa_cons pe_int pa_nil))) pe_int))) pss_nil)
  (pss_one (ps_ret (pe_op op_mul (pe_ix ix_list (pe_lstS (pa_cons pe_int (pa_cons (pe_un un_neg pe_int) pa_nil))) (pe_call (ok_draw T B) (hr.mono (by decide)) rfl T.g_draw T.F_draw.kp T.b_draw .nil pass0 (pa_cons (pv 0) (pa_cons pe_int pa_nil))) (fun _ _ => rfl)) (pe_op op_add (pe_op op_mul (pe_call (ok_draw T B) (hr.mono (by decide)) rfl T.g_draw T.F_draw.kp T.b_draw .nil pass0 (pa_cons (pv 0) (pa_cons (pe_op op_pow pe_int pe_int) pa_nil))) (pe_op op_pow pe_int pe_int)) (pe_call (ok_draw T B) (hr.mono (by decide)) rfl T.g_draw T.F_draw.kp T.b_draw .nil pass0 (pa_cons (pv 0) (pa_cons (pe_op op_pow pe_int pe_int) pa_nil)))))))), ?_⟩
    refine ⟨_, rfl, p, c, ns, n, 8, rfl, hp, by omega, by decide, ok_small (by decide), fun d0 H1 d1 d2 hp1 b1 => ?_⟩
    refine ⟨_, _, rfl, rfl, _, rfl, ?_⟩
    by_cases c0 : 0 < d0
    · rw [decide_eq_true c0]
      refine iteT ⟨_, rfl, p, c, ns, n + 1, 6, rfl, hp1, by omega, by decide, ok_small (by decide), fun e0 H2 e1 e2 hp2 b2 => ⟨_, _, rfl, rfl, ?_⟩⟩
      exact k _ H2 (hp2.mono (by omega)) (b1.trans b2)
    · rw [decide_eq_false c0]
      refine iteF ⟨1, rfl, (by show 2 ≤ sizeLine; decide), fun q H2 n2 s2 e2 => ?_⟩
      refine ⟨_, rfl, p, c, ns, n + 1, 2, rfl, hp1.same s2, by omega, by decide, ok_small (by decide), fun f0 H3 f1 f2 hp3 b3 => ?_⟩
      have pq : q ≠ p := fun z => by
        obtain ⟨o, e⟩ := (hp1.same s2).pre
        rw [z, e] at e2; cases e2
      have e3 := b3 _ _ pq e2
      have b03 := (b1.trans (But.of s2)).trans b3
      obtain ⟨sg, hsg, hat⟩ : ∃ sg : Int, (sg = 1 ∨ sg = -1) ∧ atI [V.int 1, V.int (-1)] f0 = some (.int sg) := by
        have z : f0 = 0 ∨ f0 = 1 := by omega
        rcases z with rfl | rfl
        · exact ⟨1, .inl rfl, rfl⟩
        · exact ⟨-1, .inr rfl, rfl⟩
      refine ⟨q, _, f0, _, rfl, rfl, SqL.of e3, hat, ?_⟩
      refine ⟨_, rfl, _, _, rfl, rfl, ⟨by decide, by decide, by decide⟩, p, c, ns, n + 1 + 1, _, rfl, hp3, by omega, by decide, ok_small (by decide), fun g0 H4 g1 g2 hp4 b4 => ?_⟩
      refine ⟨_, _, rfl, rfl, ⟨by decide, by decide, by decide⟩, _, _, rfl, rfl, .inr ⟨by decide, by decide⟩, ?_⟩
      refine ⟨_, rfl, _, _, rfl, rfl, ⟨by decide, by decide, by decide⟩, p, c, ns, n + 1 + 1 + 1, _, rfl, hp4, by omega, by decide, ok_small (by decide), fun h0 H5 h1 h2 hp5 b5 => ?_⟩
      refine ⟨_, _, rfl, rfl, sg, _, rfl, rfl, ?_, k _ H5 (hp5.mono (by omega)) ((b03.trans b4).trans b5)⟩
      rcases hsg with rfl | rfl <;> exact .inl ⟨by decide, by decide⟩
end
end L2.Pf
set_option maxHeartbeats 2000000
namespace L2.Pf
open PySem PySem.Spec PyProof.Rows L2.Ev L2.Tpd L2.Seti L2.Gq L2.Enf L2.Sett L2.Itr L2.Dls L2.Own L2.Ent
theorem ixN_here {n : Nat} {j : Int} (h0 : 0 ≤ j) (h : j < n) : ixN n j = some j.toNat := by
  unfold ixN
  rw [if_pos h0, if_pos h]
/-- a dict of rows with a key put -/
def putD (dat : Dat) (x : Str) (rs : List (List Int)) : Dat := if (dat.any fun p => decide (p.1 = x)) = true then dat.map (fun p => if p.1 = x then (p.1, rs) else p) else dat ++ [(x, rs)]
theorem putD_new {dat : Dat} {x : Str} {rs : List (List Int)} (h : x ∉ dat.map (·.1)) : putD dat x rs = dat ++ [(x, rs)] := by
  unfold putD
  refine if_neg fun z => h ?_
  obtain ⟨p, hp, e⟩ := List.any_eq_true.mp z
  exact List.mem_map.mpr ⟨p, hp, of_decide_eq_true e⟩
theorem putD_last {dat : Dat} {x : Str} {r rs : List (List Int)} (h : x ∉ dat.map (·.1)) : putD (dat ++ [(x, r)]) x rs = dat ++ [(x, rs)] := by
  unfold putD
  rw [if_pos (List.any_eq_true.mpr ⟨(x, r), List.mem_append_right _ (List.mem_singleton_self _), decide_eq_true rfl⟩), List.map_append]
  congr 1
  · have z : dat.map (fun p => if p.1 = x then (p.1, rs) else p) = dat.map id := List.map_congr_left fun p hp => if_neg fun z => h (List.mem_map.mpr ⟨p, hp, z⟩)
    rw [z, List.map_id]
  · show [if x = x then (x, rs) else (x, r)] = _
    rw [if_pos rfl]
theorem paired_put {H : Hp} {kvs : List (Key × V)} {dat : Dat} {x : Str} {l : Addr} {rs : List (List Int)} (h : Paired (DatF H) kvs dat) (hr : RowsAt H l rs) : Paired (DatF H) (putK kvs (.inr x) (.ref l)) (putD dat x rs) := by
  have any : (kvs.any fun kv => decide (kv.1 = Sum.inr x)) = dat.any fun p => decide (p.1 = x) := by
    clear hr
    induction h with
    | nil => rfl
    | cons g t ih =>
      rename_i kv p r s
      rw [List.any_cons, List.any_cons, ih, g.1]
      congr 1
      exact decide_eq_decide.mpr ⟨fun z => Sum.inr.inj z, fun z => by rw [z]⟩
  unfold putK putD
  rw [any]
  split
  · rename_i c0
    clear any c0
    induction h with
    | nil => exact .nil
    | cons g t ih =>
      rename_i kv p r s
      refine .cons ?_ ih
      have e := g.1
      show DatF H (if kv.1 = Sum.inr x then (kv.1, V.ref l) else kv) (if p.1 = x then (p.1, rs) else p)
      by_cases c : p.1 = x
      · rw [if_pos c, if_pos (by rw [e, c])]
        exact ⟨e, l, rfl, hr⟩
      · rw [if_neg c, if_neg (fun z => c (by rw [e] at z; exact Sum.inr.inj z))]
        exact g
  · exact paired_snoc h ⟨rfl, l, rfl, hr⟩
/-- lists and tuples stay -/
def Lts (H H' : Hp) : Prop := (∀ b xs, H b = some (.lst xs) → H' b = some (.lst xs)) ∧ ∀ b xs, H b = some (.tup xs) → H' b = some (.tup xs)
theorem RowsAt.lts {H H' : Hp} {l : Addr} {rs : List (List Int)} (h : RowsAt H l rs) (k : Lts H H') : RowsAt H' l rs :=
  let ⟨qs, a, b⟩ := h
  ⟨qs, k.1 _ _ a, Paired.mapP b fun q r e => k.2 _ _ e⟩
theorem datF_lts {H H' : Hp} {kvs : List (Key × V)} {dat : Dat} (h : Paired (DatF H) kvs dat) (k : Lts H H') : Paired (DatF H') kvs dat :=
  Paired.mapP h fun kv p ⟨e, l, e2, hr⟩ => ⟨e, l, e2, hr.lts k⟩
theorem Lts.but {p : Addr} {H H' : Hp} (b : But p H H') (e : ∃ o, H p = some (.dK o)) : Lts H H' := by
  obtain ⟨o, e⟩ := e
  exact ⟨fun q xs z => b _ _ (fun z2 => by rw [z2, e] at z; cases z) z, fun q xs z => b _ _ (fun z2 => by rw [z2, e] at z; cases z) z⟩
theorem Lts.upd {d : Addr} {H : Hp} {o : HO} (e : ∃ o, H d = some (.dK o)) : Lts H (upd H d o) := by
  obtain ⟨o2, e⟩ := e
  exact ⟨fun q xs z => by rw [upd_ne (fun z2 => by rw [z2, e] at z; cases z)]; exact z, fun q xs z => by rw [upd_ne (fun z2 => by rw [z2, e] at z; cases z)]; exact z⟩
/-- a dict of rows that the law builds at d: the pen turns, all else of H stays -/
structure NR (p c d : Addr) (ns : List Int) (H H' : Hp) (dat : Dat) (N : Nat) : Prop where
  pen : Pen H' p c ns N
  but : But p H H'
  ne : d ≠ p
  nc : d ≠ c
  fresh : H d = none
  dict : ∃ kvs, H' d = some (.dK kvs) ∧ Paired (DatF H') kvs dat
theorem NR.step {p c d : Addr} {ns : List Int} {H H1 H2 : Hp} {dat : Dat} {N M : Nat} (h : NR p c d ns H H1 dat N) (b : But p H1 H2) (q : Pen H2 p c ns M) : NR p c d ns H H2 dat M where
  pen := q
  but := h.but.trans b
  ne := h.ne
  nc := h.nc
  fresh := h.fresh
  dict := let ⟨kvs, e, f⟩ := h.dict; ⟨kvs, b _ _ h.ne e, datF_lts f (Lts.but b h.pen.pre)⟩
theorem NR.put {p c d : Addr} {ns : List Int} {H H1 : Hp} {dat : Dat} {N : Nat} {x : Str} {l : Addr} {rs : List (List Int)} (h : NR p c d ns H H1 dat N) (hr : RowsAt H1 l rs) (hl : dat.length ≤ 1000) :
    ∃ H2, DPut H1 d (.str x) (.ref l) H2 ∧ NR p c d ns H H2 (putD dat x rs) N := by
  obtain ⟨kvs, e, f⟩ := h.dict
  refine ⟨_, DPut.k (k := .inr x) e (small1000 (by rw [Paired.length f]; exact hl)), ?_⟩
  exact ⟨h.pen.upd h.ne h.nc, But.own h.but h.fresh, h.ne, h.nc, h.fresh, _, upd_same, datF_lts (paired_put f hr) (Lts.upd ⟨_, e⟩)⟩
theorem NR.get {p c d : Addr} {ns : List Int} {H H1 : Hp} {dat : Dat} {N : Nat} {x : Str} {rs : List (List Int)} (h : NR p c d ns H H1 dat N) (e : rowsOf dat x = some rs) : ∃ l, DGet H1 d (.str x) (some (.ref l)) ∧ RowsAt H1 l rs := by
  obtain ⟨kvs, d1, d2⟩ := h.dict
  rcases dat_rows d2 x with ⟨v0, z⟩ | ⟨l, rs', v0, z, hr⟩
  · rw [e] at z; cases z
  rw [e] at z
  cases z
  refine ⟨l, ?_, hr⟩
  have z := DGet.k (k := .inr x) d1
  rw [v0] at z; exact z
theorem NR.datAt {p c d : Addr} {ns : List Int} {H H1 : Hp} {dat : Dat} {N : Nat} (h : NR p c d ns H H1 dat N) : DatAt H1 d dat := h.dict
/-- tables as the law draws them: each of the schema's, in its order -/
def FullDat (tabs : Tabs) (m : Nat) (dat : Dat) : Prop := dat.map (·.1) = tabs.map (·.1) ∧ ∀ (i : Nat) (t : Str × List Str) (p : Str × List (List Int)), tabs[i]? = some t → dat[i]? = some p → p.2.length ≤ m ∧ ∀ r ∈ p.2, r.length = t.2.length
theorem FullDat.len {tabs : Tabs} {m : Nat} {dat : Dat} (h : FullDat tabs m dat) : dat.length = tabs.length := by
  have z := congrArg List.length h.1
  simpa using z
theorem FullDat.snoc {tabs : Tabs} {m : Nat} {dat : Dat} {t : Str × List Str} {rs : List (List Int)} (h : FullDat tabs m dat) (h1 : rs.length ≤ m) (h2 : ∀ r ∈ rs, r.length = t.2.length) : FullDat (tabs ++ [t]) m (dat ++ [(t.1, rs)]) := by
  have l := h.len
  refine ⟨by rw [List.map_append, List.map_append, h.1]; rfl, fun i t2 p e1 e2 => ?_⟩
  by_cases c : i < tabs.length
  · rw [List.getElem?_append_left c] at e1
    rw [List.getElem?_append_left (by omega)] at e2
    exact h.2 i t2 p e1 e2
  · rw [List.getElem?_append_right (by omega)] at e1 e2
    have c0 : i - tabs.length = 0 := by
      have z := (List.getElem?_eq_some_iff.mp e1).1
      simp at z; omega
    rw [c0] at e1
    rw [l, c0] at e2
    cases e1
    cases e2
    exact ⟨h1, h2⟩
theorem FullDat.out {tabs : Tabs} {m : Nat} {dat : Dat} {i : Nat} {t : Str × List Str} (h : FullDat (tabs.take i) m dat) (nd : (tabs.map (·.1)).Nodup) (e : tabs[i]? = some t) : t.1 ∉ dat.map (·.1) := by
  obtain ⟨hi, e⟩ := List.getElem?_eq_some_iff.mp e
  rw [h.1]
  intro z
  obtain ⟨t2, h2, e2⟩ := List.mem_map.mp z
  obtain ⟨j, hj, e3⟩ := List.mem_take_iff_getElem.mp h2
  have hj2 : j < i := by omega
  have hjl : j < tabs.length := by omega
  have z1 : (tabs.map (·.1))[j]'(by rw [List.length_map]; exact hjl) = (tabs.map (·.1))[i]'(by rw [List.length_map]; exact hi) := by
    rw [List.getElem_map, List.getElem_map, e, e3, e2]
  exact List.pairwise_iff_getElem.mp nd j i (by rw [List.length_map]; exact hjl) (by rw [List.length_map]; exact hi) hj2 z1
theorem nodup_ix {tabs : Tabs} (nd : (tabs.map (·.1)).Nodup) {i j : Nat} {t u : Str × List Str} (e : tabs[i]? = some t) (e2 : tabs[j]? = some u) (h : t.1 = u.1) : i = j := by
  obtain ⟨hi, e⟩ := List.getElem?_eq_some_iff.mp e
  obtain ⟨hj, e2⟩ := List.getElem?_eq_some_iff.mp e2
  have ne : ∀ {a b : Nat} (ha : a < tabs.length) (hb : b < tabs.length), a < b → tabs[a].1 ≠ tabs[b].1 := fun {a b} ha hb hab => by
    have z := List.pairwise_iff_getElem.mp nd a b (by rw [List.length_map]; exact ha) (by rw [List.length_map]; exact hb) hab
    rw [List.getElem_map, List.getElem_map] at z
    exact z
  rcases Nat.lt_trichotomy i j with c | c | c
  · exact absurd (by rw [e, e2, h]) (ne hi hj c)
  · exact c
  · exact absurd (by rw [e, e2, h]) (ne hj hi c)
theorem FullDat.get {tabs : Tabs} {m : Nat} {dat : Dat} (h : FullDat tabs m dat) (nd : (tabs.map (·.1)).Nodup) {i : Nat} {t : Str × List Str} (e : tabs[i]? = some t) : ∃ rs, rowsOf dat t.1 = some rs ∧ rs.length ≤ m ∧ ∀ r ∈ rs, r.length = t.2.length := by
  have hm : t.1 ∈ dat.map (·.1) := by
    rw [h.1]
    exact List.mem_map.mpr ⟨t, List.mem_of_getElem? e, rfl⟩
  obtain ⟨p0, hp0, ep0⟩ := List.mem_map.mp hm
  cases c : dat.find? (fun p => decide (p.1 = t.1)) with
  | none => exact absurd (decide_eq_true ep0) (List.find?_eq_none.mp c p0 hp0)
  | some q =>
    have hq := List.mem_of_find?_eq_some c
    have eq : q.1 = t.1 := by
      have z := List.find?_some c
      simpa using z
    obtain ⟨j, hj, ej⟩ := List.getElem_of_mem hq
    have hjt : j < tabs.length := by rw [← h.len]; exact hj
    have ek : tabs[j].1 = q.1 := by
      have z := congrArg (fun l => l[j]?) h.1
      simp only [List.getElem?_map, List.getElem?_eq_getElem hj, List.getElem?_eq_getElem hjt, Option.map_some, ej] at z
      exact (Option.some.inj z).symm
    have ij := nodup_ix nd e (List.getElem?_eq_getElem hjt) (by rw [ek, eq])
    subst ij
    obtain ⟨a, b⟩ := h.2 i t q e (by rw [List.getElem?_eq_getElem hj, ej])
    exact ⟨q.2, by unfold rowsOf; rw [c]; rfl, a, b⟩
theorem FullDat.put {tabs : Tabs} {m : Nat} {dat : Dat} (h : FullDat tabs m dat) (nd : (tabs.map (·.1)).Nodup) {i : Nat} {t : Str × List Str} (e : tabs[i]? = some t) {rs : List (List Int)} (h1 : rs.length ≤ m) (h2 : ∀ r ∈ rs, r.length = t.2.length) : FullDat tabs m (putD dat t.1 rs) := by
  have hm : t.1 ∈ dat.map (·.1) := by
    rw [h.1]
    exact List.mem_map.mpr ⟨t, List.mem_of_getElem? e, rfl⟩
  obtain ⟨p0, hp0, ep0⟩ := List.mem_map.mp hm
  have ep : putD dat t.1 rs = dat.map (fun p => if p.1 = t.1 then (p.1, rs) else p) := by
    unfold putD
    exact if_pos (List.any_eq_true.mpr ⟨p0, hp0, decide_eq_true ep0⟩)
  rw [ep]
  refine ⟨?_, fun j u q e1 e2 => ?_⟩
  · rw [List.map_map, ← h.1]
    refine List.map_congr_left fun p _ => ?_
    show (if p.1 = t.1 then (p.1, rs) else p).1 = p.1
    by_cases c : p.1 = t.1
    · rw [if_pos c]
    · rw [if_neg c]
  · rw [List.getElem?_map] at e2
    obtain ⟨p, e3, e4⟩ := Option.map_eq_some_iff.mp e2
    by_cases c : p.1 = t.1
    · rw [if_pos c] at e4
      subst e4
      have ek : u.1 = p.1 := by
        have z := congrArg (fun l => l[j]?) h.1
        simp only [List.getElem?_map, e1, e3, Option.map_some] at z
        exact (Option.some.inj z).symm
      have ij := nodup_ix nd e e1 (by rw [ek, c])
      subst ij
      rw [e] at e1
      cases e1
      exact ⟨h1, h2⟩
    · rw [if_neg c] at e4
      subst e4
      exact h.2 j u p e1 e3
theorem PlainAt.but {p c : Addr} {ns : List Int} {n : Nat} {H H' : Hp} {a : Addr} {tabs : Tabs} (h : PlainAt H a tabs) (q : Pen H p c ns n) (b : But p H H') : PlainAt H' a tabs := by
  obtain ⟨l, i, bb, qs, h1, h2, h3⟩ := h
  have k := Lts.but b q.pre
  refine ⟨l, i, bb, qs, b _ _ (fun z => ?_) h1, k.1 _ _ h2, Paired.mapP h3 fun q t ⟨c, e1, e2⟩ => ⟨c, k.2 _ _ e1, k.1 _ _ e2⟩⟩
  obtain ⟨t, l2, e, _⟩ := q.d
  rw [z, e] at h1
  cases h1
theorem NR.mono {p c d : Addr} {ns : List Int} {H H1 : Hp} {dat : Dat} {N M : Nat} (h : NR p c d ns H H1 dat N) (k : N ≤ M) : NR p c d ns H H1 dat M := ⟨h.pen.mono k, h.but, h.ne, h.nc, h.fresh, h.dict⟩
theorem rowsOf_last {dat : Dat} {x : Str} {r : List (List Int)} (h : x ∉ dat.map (·.1)) : rowsOf (dat ++ [(x, r)]) x = some r := by
  unfold rowsOf
  rw [List.find?_append, List.find?_eq_none.mpr fun p hp z => h (List.mem_map.mpr ⟨p, hp, of_decide_eq_true z⟩), Option.none_or, List.find?_cons, decide_eq_true rfl]
  rfl
end L2.Pf
set_option maxHeartbeats 2000000
namespace L2.Pf
open PySem PySem.Spec PyProof.Rows L2.Ev L2.Tpd L2.Seti L2.Gq L2.Enf L2.Sett L2.Itr L2.Dls L2.Own L2.Ent
section
variable {P : Program} {w : World} {K : PySem.W.Frag} {mg : Str → Option Value} {base : Heap}
def sp_new_rows : Sp := fun vs H Q _ => ∃ (p c : Addr) (ns : List Int) (n : Nat) (a : Addr) (tabs : Tabs) (m s : Int), vs = [.ref p, .ref a, .int m, .int s] ∧ Pen H p c ns n ∧ n ≤ 2 ^ 48 ∧ PlainAt H a tabs ∧ DrawnTabs 4 tabs ∧ 0 ≤ m ∧ m ≤ 10 ∧ 1 ≤ s ∧ s ≤ 100 ∧
  ∀ (dat : Dat) d H', FullDat tabs m.toNat dat → H d = none → DatAt H' d dat → Pen H' p c ns (n + 1000) → But p H H' → Q (.ref d) H'
theorem ok_new_rows (T : TX K mg) (B : TB T base) : FnOk P w K mg base CX0 3 T.a_new_rows T.fd_new_rows p_new_rows sp_new_rows := by
  refine T.F_new_rows.ok sc_new_rows (fun vs H Q E h => ?_) (fun cdv A outer s H vs Q E hr h => ?_)
  · obtain ⟨p, c, ns, n, a, tabs, m, sp, rfl, _⟩ := h
    rfl
  · obtain ⟨p, c, ns, n, a, tabs, m, sp, rfl, hp, hn, hP, hT, hm0, hm, hs1, hs, k⟩ := h
    refine ⟨_, (pss_cons (ps_set (i := 4) sc_new_rows.nd rfl (Or.inl rfl) pe_dnewK)
  (pss_cons (ps_for PassesOwn.never rfl (pi_list (pe_dget (hu_of hr) (pv 1) pe_str (fun _ _ => rfl))) (pg_tup rfl (pgs_cons (pg_name (i := 5) sc_new_rows.nd rfl (Or.inl rfl)) (pgs_cons (pg_name (i := 6) sc_new_rows.nd rfl (Or.inl rfl)) pgs_nil))) (pss_cons (ps_dput (hu_of hr) (pv 4) (pv 5) (pe_lstS pa_nil) rfl)
  (pss_one (ps_for PassesOwn.never rfl (pi_range1 (by rfl) T.z_range (pa_cons (pe_call (ok_draw T B) (hr.mono (by decide)) rfl T.g_draw T.F_draw.kp T.b_draw .nil pass0 (pa_cons (pv 0) (pa_cons (pe_op op_add (pv 2) pe_int) pa_nil))) pa_nil)) (pg_name (i := 7) sc_new_rows.nd rfl (Or.inl rfl)) (pss_cons (ps_setLc (i := 8) (own := [("_law_column", 9)]) (g := gName 9) (tt := tYes) rfl sc_new_rows.nd rfl rfl (sw_true rfl rfl rfl (by decide +kernel)) (pi_list (pv 6)) (blkOk_by (own := [("_law_column", 9)]) (N := n_new_rows) (sc := defScope s_new_rows) (by decide +kernel)) (fun _ _ _ _ _ => (pg_name (i := 9) sc_new_rows.nd rfl (Or.inl rfl))) (fun _ _ _ _ _ => pts_nil) (fun _ _ _ _ _ => (pe_op op_sub (pe_call (ok_draw T B) (hr.mono (by decide)) rfl T.g_draw T.F_draw.kp T.b_draw .nil pass0 (pa_cons (pv 0) (pa_cons (pv 3) pa_nil))) pe_int)))
  (pss_join (ps_if (pt_cmpR op_eq (pe_call (ok_draw T B) (hr.mono (by decide)) rfl T.g_draw T.F_draw.kp T.b_draw .nil pass0 (pa_cons (pv 0) (pa_cons pe_int pa_nil))) pe_int (nomark _)) (pss_one (ps_asg (pe_op op_add (pe_call (ok_new_integer T B) (hr.mono (by decide)) rfl T.g_new_integer T.F_new_integer.kp T.b_new_integer .nil pass0 (pa_cons (pv 0) pa_nil)) (pe_op op_mul (pe_op op_mul (pe_op op_pow pe_int pe_int) (pe_op op_pow pe_int pe_int)) (pe_op op_sub (pe_call (ok_draw T B) (hr.mono (by decide)) rfl T.g_draw T.F_draw.kp T.b_draw .nil pass0 (pa_cons (pv 0) (pa_cons pe_int pa_nil))) pe_int))) (pg_sub (pv 8) (pe_call (ok_draw T B) (hr.mono (by decide)) rfl T.g_draw T.F_draw.kp T.b_draw .nil pass0 (pa_cons (pv 0) (pa_cons (pe_callB call_len_seq (by rfl) T.z_len (by decide +kernel) (pa_cons (pv 8) pa_nil)) pa_nil))) set_list))) pss_nil)
  (pss_one (ps_dput (hu_of hr) (pv 4) (pv 5) (pe_op op_catS (pe_dget (hu_of hr) (pv 4) (pv 5) (fun _ _ => rfl)) (pe_lstS (pa_cons (pe_callTy call_tuple_of (by rfl) T.z_tuple (by decide +kernel) (pa_cons (pv 8) pa_nil)) pa_nil))) rfl))))))))
  (pss_one (ps_ret (pv 4))))), ?_⟩
    refine fun d hd => ?_
    have pD : ∀ {H : Hp} {k : Nat}, Pen H p c ns k → ∃ o, H p = some (.dK o) := fun q => q.pre
    have ndp : d ≠ p := fun z => by
      obtain ⟨o, e⟩ := pD hp
      rw [z, e] at hd; cases hd
    have ndc : d ≠ c := fun z => by
      have e := hp.cells
      rw [← z, hd] at e; cases e
    have r0 : NR p c d ns H (upd H d (.dK [])) [] n := ⟨hp.new hd, But.new (But.refl p H) hd, ndp, ndc, hd, [], upd_same, .nil⟩
    generalize upd H d (.dK []) = H0 at r0
    obtain ⟨lt, li, lb, qs, t1, t2, t3⟩ := hP
    have hql := Paired.length t3
    have h4 := hT.few
    have na : a ≠ p := fun z => by
      obtain ⟨t, l, e, _⟩ := hp.d
      rw [z, e] at t1
      cases t1
    have keep : ∀ {H' : Hp} {dat : Dat} {N : Nat}, NR p c d ns H H' dat N → ∀ {b : Addr} {xs : List V}, H b = some (.lst xs) → H' b = some (.lst xs) := fun q b xs e => (Lts.but q.but (pD hp)).1 _ _ e
    have keepT : ∀ {H' : Hp} {dat : Dat} {N : Nat}, NR p c d ns H H' dat N → ∀ {b : Addr} {xs : List V}, H b = some (.tup xs) → H' b = some (.tup xs) := fun q b xs e => (Lts.but q.but (pD hp)).2 _ _ e
    refine ⟨_, rfl, a, .ref lt, rfl, .inl ⟨_, .inr "tables", .inl (r0.but _ _ na t1), rfl, rfl⟩, lt, rfl, ⟨_, SqL.of (keep r0 t2)⟩, ?_⟩
    refine for_list (xs := qs.map V.ref) (fun i σ H' => ∃ (v5 v6 v7 v8 v9 : Option V) (dat : Dat), σ = [some (.ref p), some (.ref a), some (.int m), some (.int sp), some (.ref d), v5, v6, v7, v8, v9] ∧ NR p c d ns H H' dat (n + 110 * i) ∧ FullDat (tabs.take i) m.toNat dat) ?_ (fun i σ H' _ ⟨_, _, _, _, _, _, _, q, _⟩ => SqL.of (keep q t2)) ?_ ?_
    · exact ⟨none, none, none, none, none, [], rfl, r0, rfl, fun i t p e _ => by simp at e⟩
    · rintro i x σ H1 hx ⟨v5, v6, v7, v8, v9, dat, rfl, q1, f1⟩
      have hi : i < tabs.length := by
        rcases Nat.lt_or_ge i tabs.length with h | h
        · exact h
        · rw [List.getElem?_eq_none (by rw [List.length_map]; omega)] at hx; cases hx
      rw [List.getElem?_map, List.getElem?_eq_getElem (show i < qs.length by omega)] at hx
      cases hx
      obtain ⟨cl, g1, g2⟩ := paired_get t3 (List.getElem?_eq_getElem (show i < qs.length by omega)) (List.getElem?_eq_getElem hi)
      have et : tabs[i]? = some tabs[i] := List.getElem?_eq_getElem hi
      have hout := f1.out hT.nd et
      have hdl := f1.len
      rw [List.length_take] at hdl
      obtain ⟨cN1, cN2, _, _⟩ := hT.cols _ (List.getElem_mem hi)
      generalize tabs[i] = t at g1 g2 et hout cN1 cN2
      refine ⟨_, _, rfl, SqT.of (keepT q1 g1), rfl, _, _, rfl, _, _, rfl, rfl, ?_⟩
      refine ⟨(by show 0 ≤ sizeLine; decide), fun l0 H2 n2 s2 e2 => ?_⟩
      have q2 := q1.step (But.of s2) (q1.pen.same s2)
      obtain ⟨H3, p3, q3⟩ := q2.put (x := t.1) (l := l0) (rs := []) ⟨[], e2, .nil⟩ (by omega)
      rw [putD_new hout] at q3
      refine ⟨_, rfl, _, rfl, d, H3, rfl, p3, ?_⟩
      refine ⟨_, rfl, _, rfl, _, _, rfl, rfl, p, c, ns, _, m + 1, rfl, q3.pen, by omega, by omega, ok_small (by omega), fun d0 H4 d1 d2 hp4 b4 => ?_⟩
      have q4 := q3.step b4 hp4
      refine ⟨d0, rfl, by omega, by omega, ?_⟩
      refine for_range (lo := 0) (n := d0.toNat) (fun j σ H' => ∃ (v7 v8 v9 : Option V) (rs : List (List Int)), σ = [some (.ref p), some (.ref a), some (.int m), some (.int sp), some (.ref d), some (.str t.1), some (.ref cl), v7, v8, v9] ∧ NR p c d ns H H' (dat ++ [(t.1, rs)]) (n + 110 * i + 1 + 10 * j) ∧ rs.length = j ∧ ∀ r ∈ rs, r.length = t.2.length) ⟨v7, v8, v9, [], rfl, q4, rfl, fun r hr => by cases hr⟩ ?_ ?_
      · rintro j σ H5 hj ⟨v7, v8, v9, rs, rfl, q5, hrs, hrl⟩
        have hc5 : H5 cl = some (.lst (t.2.map V.str)) := keep q5 g2
        refine ⟨_, rfl, cl, rfl, ⟨_, SqL.of hc5⟩, fun D hD => ?_⟩
        have nDp : D ≠ p := fun z => by
          obtain ⟨o, e⟩ := q5.pen.pre
          rw [z, e] at hD; cases hD
        have nDc : D ≠ c := fun z => by
          have e := q5.pen.cells
          rw [← z, hD] at e; cases e
        refine lc_growB (n := t.2.length) (p := p) hD nDp (fun k acc Hc => Pen Hc p c ns (n + 110 * i + 1 + 10 * j + k) ∧ ∃ r : List Int, acc = r.map V.int ∧ r.length = k) ?_ ?_ ?_ ?_ (small1000 (by omega)) ?_ ?_
        · rintro k acc Hc o ⟨u1, u2⟩ _
          exact ⟨u1.upd nDp nDc, u2⟩
        · exact fun Hc s => ⟨q5.pen.same s, [], rfl, rfl⟩
        · exact fun k Hc hk b => ⟨_, V.str (t.2[k]'hk), SqL.of ((Lts.but b q5.pen.pre).1 _ _ hc5), by rw [List.getElem?_map, List.getElem?_eq_getElem hk]; rfl⟩
        · exact fun Hc b => ⟨_, SqL.of ((Lts.but b q5.pen.pre).1 _ _ hc5), by rw [List.length_map]; exact Nat.le_refl _⟩
        · rintro k acc Hc F G' hF hG' hk hb hacc ⟨u1, r, rfl, u3⟩ x Hc' ⟨eH, ev⟩
          subst eH
          refine ⟨rfl, _, rfl, _, rfl, p, c, ns, _, sp, rfl, u1, by omega, by omega, ok_small (by omega), fun f0 H6 f1 f2 hp6 b6 => ⟨_, _, rfl, rfl, hF _ H6 b6 ⟨hp6.mono (by omega), r ++ [f0 - 1], by rw [List.map_append]; rfl, by rw [List.length_append, u3]; rfl⟩⟩⟩
        · rintro acc H6 b6 hacc ⟨u1, r, rfl, u3⟩
          refine ⟨fun σ' H' => ∃ (v9' : Option V) (r' : List Int), σ' = [some (.ref p), some (.ref a), some (.int m), some (.int sp), some (.ref d), some (.str t.1), some (.ref cl), some (.int (0 + (j : Int))), some (.ref D), v9'] ∧ H' D = some (.lst (r'.map V.int)) ∧ r'.length = t.2.length ∧ Pen H' p c ns (n + 110 * i + 1 + 10 * j + 10) ∧ But p H5 H', ?_, ?_⟩
          · refine ⟨_, rfl, p, c, ns, _, 12, rfl, u1, by omega, by decide, ok_small (by decide), fun f0 H7 f1 f2 hp7 b7 => ?_⟩
            refine ⟨rfl, _, rfl, ?_⟩
            have e7 := b7 _ _ nDp hacc
            cases hh : decide (V.int f0 = V.int 0) with
            | false => exact iteF ⟨v9, r, rfl, e7, u3, hp7.mono (by omega), b6.trans b7⟩
            | true =>
              refine iteT ⟨_, rfl, p, c, ns, _, rfl, hp7, by omega, fun k0 H8 hp8 b8 => ?_⟩
              refine ⟨_, _, rfl, rfl, ⟨by decide, by decide, by decide⟩, _, _, rfl, rfl, ⟨by decide, by decide, by decide⟩, _, _, rfl, rfl, .inr ⟨by decide, by decide⟩, ?_⟩
              refine ⟨_, rfl, p, c, ns, _, 3, rfl, hp8, by omega, by decide, ok_small (by decide), fun g0 H9 g1 g2 hp9 b9 => ?_⟩
              refine ⟨_, _, rfl, rfl, _, _, rfl, rfl, .inr ⟨by omega, by omega⟩, _, _, rfl, rfl, ?_⟩
              have e9 := b9 _ _ nDp (b8 _ _ nDp e7)
              have hlen : (r.map V.int).length = t.2.length := by rw [List.length_map, u3]
              have hpos : 0 < t.2.length := List.length_pos_iff.mpr cN1
              refine ⟨_, rfl, _, rfl, _, rfl, D, _, rfl, .inl (SqL.of e9), p, c, ns, _, ((r.map V.int).length : Nat), rfl, hp9, by omega, by omega, ok_small (by omega), fun j0 HA j1 j2 hpA bA => ?_⟩
              have eA := bA _ _ nDp e9
              refine ⟨D, _, j0, j0.toNat, rfl, rfl, eA, ?_, ?_⟩
              · exact ixN_here j1 j2
              refine ⟨v9, r.set j0.toNat _, rfl, by rw [List.map_set]; exact upd_same, by rw [List.length_set]; exact u3, (hpA.upd nDp nDc).mono (by omega), ?_⟩
              exact But.own ((((b6.trans b7).trans b8).trans b9).trans bA) hD
          · rintro σ' H7 ⟨v9', r', rfl, e7, h7, hp7, b7⟩
            have q7 := q5.step b7 hp7
            obtain ⟨l, dg, hr⟩ := q7.get (rowsOf_last hout)
            obtain ⟨qs2, el, hqs2⟩ := hr
            have hql2 := Paired.length hqs2
            refine ⟨_, rfl, _, rfl, d, .ref l, rfl, dg, _, rfl, D, _, rfl, .inl ⟨SqL.of e7, fun qt nqt => ?_⟩⟩
            have sq : Same H7 (upd H7 qt (.tup (r'.map V.int))) := Same.new (Same.refl _) nqt
            have eq : (upd H7 qt (.tup (r'.map V.int))) qt = some (.tup (r'.map V.int)) := upd_same
            refine ⟨(by show 1 ≤ sizeLine; decide), fun l2 H8 n2 s8 e8 => ?_⟩
            have s78 : Same H7 H8 := sq.trans s8
            refine ⟨l, l2, _, _, rfl, rfl, s78 _ _ el, e8, ?_, fun l3 H9 n3 s9 e9 => ?_⟩
            · have z := small1000 (n := rs.length + 1) (by omega)
              simp only [List.length_map, List.length_cons, List.length_nil]
              omega
            have s79 := s78.trans s9
            have q9 := q7.step (But.of s79) (q7.pen.same s79)
            obtain ⟨HB, pB, qB⟩ := q9.put (x := t.1) (l := l3) (rs := rs ++ [r']) ⟨qs2 ++ [qt], by rw [List.map_append]; exact e9, paired_snoc (Paired.mapP hqs2 fun q r e => s79 _ _ e) (s9 _ _ (s8 _ _ eq))⟩ (by rw [List.length_append]; show dat.length + 1 ≤ 1000; omega)
            rw [putD_last hout] at qB
            refine ⟨_, rfl, _, rfl, d, HB, rfl, pB, ?_⟩
            refine ⟨_, _, _, rs ++ [r'], rfl, ⟨qB.pen.mono (by omega), qB.but, qB.ne, qB.nc, qB.fresh, qB.dict⟩, by rw [List.length_append, hrs]; rfl, fun r hr => ?_⟩
            rcases List.mem_append.mp hr with h | h
            · exact hrl r h
            · rw [List.mem_singleton.mp h]; exact h7
      · rintro σ H5 ⟨v7, v8, v9, rs, rfl, q5, hrs, hrl⟩
        refine ⟨_, _, _, _, _, _, rfl, ⟨q5.pen.mono (by omega), q5.but, q5.ne, q5.nc, q5.fresh, q5.dict⟩, ?_⟩
        rw [List.take_add_one, et]
        exact f1.snoc (by omega) hrl
    · rintro σ H1 ⟨v5, v6, v7, v8, v9, dat, rfl, q1, f1⟩
      rw [List.length_map, hql, List.take_length] at f1
      rw [List.length_map] at q1
      exact ⟨_, rfl, k dat d H1 f1 hd q1.datAt (q1.pen.mono (by omega)) q1.but⟩
end
end L2.Pf
set_option maxHeartbeats 2000000
namespace L2.Ev
open PySem PySem.Spec PyProof.Rows
section
variable {X : Cx} {k : Nat} {f C : Addr} {fd : FuncData} {ps : List Str} {sp : Sp} {E : St → XK} {CY : CXT} {o e : Expr} {es : List Expr} {ta : TE} {t : TA} {m : Str} {apos pos : Pos}
/-- o.m(e, ..) within a try: what it lets out is told of at the slots of the moment -/
def tMethZ (C : Addr) (m : Str) (sp : Sp) (E : St → XK) (to : TE) (t : TA) : TE := fun σ H Q => to σ H fun x H1 => ∃ a dx fs, x = .ref a ∧ H1 a = some (.ins C dx fs) ∧ fs.lookup m = none ∧ t σ H1 fun vs H2 => sp (x :: vs) H2 Q (E σ)
theorem pe_methZ {pl : Sem Bool} (he : PE X o ta) (c : Cls X.K C) (hm : Meth X.K C m f) (F : FnOk X.prog X.w X.K X.mg X.base CY k f fd ps sp) (hr : Room k X.A) (hb : Binds X.K fd ps []) (hx : ∀ σ, PassesAt CY X σ (E σ)) (ha : PA X (e :: es) t)
    (hst : starEach (e :: es) X.env = (false, eval e X.env) :: starEach es X.env := by rfl) (hpl : (backTo pos (starEach es X.env)).any (·.1) = false := by rfl)
    (ht : eval (.Call (.Attribute o m apos) (e :: es) [] pos) X.env = (do
      let ov ← eval o X.env
      standAt apos.atName
      let (f, first) ← holding [ov] (getMethod ov m pl)
      callWith pos f first (backTo pos (starEach (e :: es) X.env)) (backToKw pos (keywordEach [] X.env))) := by rfl) :
    PE X (.Call (.Attribute o m apos) (e :: es) [] pos) (tMethZ C m sp E ta t) := by
  refine ⟨fun pins s σ H Q I h => ?_⟩
  refine PySem.W.methodCall_KW (pl := pl) (thn (he.run pins s σ H _ I h) fun u s1 ⟨x, H1, I1, rx, a, dx, fs, ex, ea, l, q⟩ => ?_) ht
  subst ex
  obtain rfl : u = Value.ref a := rx
  refine getmeth_ok I1 ea c hm l ?_
  refine PySem.W.callWith_K (first := [.ref a]) (h₀ := X.base) I.ok.mod.kin hm.kp (thn (ha.run pos pins s1 σ H1 _ I1 q) fun us s2 ⟨vs, H2, I2, r, q2⟩ => ⟨I2.kIn, ?_⟩) hst hpl
  exact run_fnS (us := .ref a :: us) (vs := .ref a :: vs) F hr hb (hx σ) I2 (.cons rfl r) q2
end
end L2.Ev
namespace L2.Pf
open PySem PySem.Spec PyProof.Rows L2.Ev L2.Tpd L2.Seti L2.Gq L2.Enf L2.Sett L2.Itr L2.Dls L2.Own L2.Ent
section
variable {P : Program} {w : World} {K : PySem.W.Frag} {mg : Str → Option Value} {base : Heap}
def sp_told_table (C CS PR PS : Addr) : Sp := fun vs H Q _ => ∃ (f d : Addr) (tabs : Tabs) (dat : Dat) (ls : List Str), vs = [.ref f, .ref d] ∧ FactsAt C CS tabs H f ls ∧ DatAt H d dat ∧ dat.length < 64 ∧ (∀ p ∈ dat, p.2.length < 64 ∧ ∀ r ∈ p.2, r.length ≤ 1000) ∧ H PR = some (TabX PR) ∧ H PS = some (TabX PS) ∧ tabs.length ≤ 1000 ∧ (tabs.map (·.1)).Nodup ∧
  (∀ H', tabs.find? (isBad dat) = none → strangeOf tabs dat = [] → Same H H' → Q (.str "") H') ∧ ∀ x H', Told tabs dat x → Same H H' → Q (.str x) H'
theorem ok_told_table (T : TX K mg) (B : TB T base) : FnOk P w K mg base CX0 8 T.a_told_table T.fd_told_table p_told_table (sp_told_table T.C_Facts T.C_Schema T.P_is_row T.P_are_rows) := by
  refine T.F_told_table.ok sc_told_table (fun vs H Q E h => ?_) (fun cdv A outer s H vs Q E hr h => ?_)
  · obtain ⟨f, d, tabs, dat, ls, rfl, _⟩ := h
    rfl
  · obtain ⟨f, d, tabs, dat, ls, rfl, hF, hD, hd64, hlen, hP1, hP2, htl, hnd, k1, k2⟩ := h
    refine ⟨_, (pss_cons (ps_try_as (i := 2) rfl rfl sc_told_table.nd rfl rfl ⟨rfl, by decide, .inl T.x_BadTables.g⟩ takes0 (fun W pn xe tk _ => (pss_one (ps_expr (pe_methZ (pv 0) T.cl_Facts T.m_Facts_broken (ok_Facts_broken T B) (hr.mono (by decide)) T.b_Facts_broken (fun σ => passAt tk σ) (pa_cons (pv 1) pa_nil))))) (fun a oe cls d pn hz hf => (pss_one (ps_ret (pe_ifExp (PW.pt (pw_and (pt_val (pe_callB (call_isD hz hf) (by rfl) T.z_isinstance (by decide +kernel) (pa_cons (pv 2) (pa_cons (pe_glob (v := .ref T.x_LookError.C) rfl T.x_LookError.g rfl) pa_nil)))) (pw_and1 (pt_not (pt_val (pe_callB (call_isD hz hf) (by rfl) T.z_isinstance (by decide +kernel) (pa_cons (pv 2) (pa_cons (pe_glob (v := .ref T.x_BadFact.C) rfl T.x_BadFact.g rfl) pa_nil)))))))) (pe_xf T.x_BadTables.xfc T.f_BadTables_init_table hz hf (pv 2)) pe_str)))))
  (pss_one (ps_ret pe_str))), ?_⟩
    have no1 : T.x_BadTables.C ≠ T.x_BadFact.C := T.x_BadTables.ne T.x_BadFact (by decide +kernel)
    have no2 : T.x_LookError.C ≠ T.x_BadFact.C := T.x_LookError.ne T.x_BadFact (by decide +kernel)
    have w1 : PySem.W.kitOne K (.ref T.x_BadTables.C) (.ref T.x_LookError.C) = some true := by
      rw [T.x_BadTables.kit T.x_LookError]
      simp
    have w2 : PySem.W.kitOne K (.ref T.x_BadTables.C) (.ref T.x_BadFact.C) = some false := by
      rw [T.x_BadTables.kit T.x_BadFact]
      simp [Ne.symm no1, Ne.symm no2]
    have e0 : PySem.W.exmOne K (.ref T.x_BadTables.C) (.ref T.x_BadTables.C) = some true := PySem.W.exm_ref T.x_BadTables.exB T.x_BadTables.hd T.x_BadTables.ty (by rw [T.x_BadTables.sub]; simp)
    have hF2 := hF
    obtain ⟨dx, df, sc, of, kvs, f1, _⟩ := hF2
    refine ⟨_, rfl, f, dx, _, rfl, f1, rfl, _, rfl, ?_⟩
    refine ⟨f, d, tabs, dat, ls, rfl, hF, hD, hd64, hlen, hP1, hP2, htl, hnd, fun H2 n2 st2 s2 => ?_, fun x H2 d2 told s2 e2 => ?_⟩
    · exact k1 H2 n2 st2 s2
    · refine ⟨true, e0, fun _ a2 na2 => ?_, fun z => Bool.noConfusion z⟩
      refine ⟨_, rfl, T.x_BadTables.C, d2, _, _, _, true, rfl, .own _, rfl, rfl, e2, T.x_BadTables.exc, w1, true, rfl, ?_⟩
      refine ⟨_, rfl, T.x_BadTables.C, d2, _, _, _, false, rfl, .own _, rfl, rfl, e2, T.x_BadTables.exc, w2, false, rfl, ?_⟩
      exact ⟨_, rfl, rfl, rfl, d2, _, _, rfl, e2, lookup1 _ _, k2 x H2 told s2⟩
end
end L2.Pf
set_option maxHeartbeats 2000000
namespace L2.Pf
open PySem PySem.Spec PyProof.Rows L2.Ev L2.Tpd L2.Seti L2.Gq L2.Enf L2.Sett L2.Itr L2.Dls L2.Own L2.Ent L2.Srw L2.Tpm
section
variable {P : Program} {w : World} {K : PySem.W.Frag} {mg : Str → Option Value} {base : Heap}
theorem rows_any {H : Hp} {n : Nat} : ∀ {ys : List V}, (∀ y ∈ ys, ∃ (q : Addr) (r : List Int), y = .ref q ∧ RowAt H q r ∧ r.length = n) → ∃ (qs : List Addr) (rs : List (List Int)), ys = qs.map V.ref ∧ Paired (RowAt H) qs rs ∧ rs.length = ys.length ∧ ∀ r ∈ rs, r.length = n
  | [], _ => ⟨[], [], rfl, .nil, rfl, fun r h => by cases h⟩
  | y :: ys, h => by
    obtain ⟨q, r, rfl, e, l⟩ := h y List.mem_cons_self
    obtain ⟨qs, rs, rfl, p, pl, pn⟩ := rows_any fun z hz => h z (List.mem_cons_of_mem _ hz)
    refine ⟨q :: qs, r :: rs, rfl, .cons e p, by rw [List.length_cons, List.length_cons, pl], fun z hz => ?_⟩
    rcases List.mem_cons.mp hz with rfl | hz
    · exact l
    · exact pn z hz
theorem rows_each {H : Hp} {qs : List Addr} {rs : List (List Int)} {n : Nat} (h : Paired (RowAt H) qs rs) (hn : ∀ r ∈ rs, r.length = n) : ∀ y ∈ qs.map V.ref, ∃ (q : Addr) (r : List Int), y = .ref q ∧ RowAt H q r ∧ r.length = n := by
  induction h with
  | nil => intro y hy; cases hy
  | cons g t ih =>
    rename_i q r _ _
    intro y hy
    rcases List.mem_cons.mp hy with rfl | hy
    · exact ⟨q, r, rfl, g, hn _ List.mem_cons_self⟩
    · exact ih (fun r hr => hn r (List.mem_cons_of_mem _ hr)) y hy
def sp_nearly_kept (K : PySem.W.Frag) : Sp := fun vs H Q _ => ∃ (p c : Addr) (ns : List Int) (n : Nat) (a ll : Addr) (tabs : Tabs), vs = [.ref p, .ref a, .ref ll] ∧ Pen H p c ns n ∧ n ≤ 2 ^ 47 ∧ PlainAt H a tabs ∧ DrawnTabs 4 tabs ∧
  ∀ (dat : Dat) d H', FullDat tabs 10 dat → H d = none → DatAt H' d dat → Pen H' p c ns (n + 1100) → But p H H' → Q (.ref d) H'
theorem ok_nearly_kept (T : TX K mg) (B : TB T base) : FnOk P w K mg base CX0 4 T.a_nearly_kept T.fd_nearly_kept p_nearly_kept (sp_nearly_kept K) := by
  refine T.F_nearly_kept.ok sc_nearly_kept (fun vs H Q E h => ?_) (fun cdv A outer s H vs Q E hr h => ?_)
  · obtain ⟨p, c, ns, n, a, ll, tabs, rfl, _⟩ := h
    rfl
  · obtain ⟨p, c, ns, n, a, ll, tabs, rfl, hp, hn, hP, hT, k⟩ := h
    refine ⟨_, (pss_cons (ps_set (i := 3) sc_nearly_kept.nd rfl (Or.inl rfl) (pe_call (ok_new_rows T B) (hr.mono (by decide)) rfl T.g_new_rows T.F_new_rows.kp T.b_new_rows .nil pass0 (pa_cons (pv 0) (pa_cons (pv 1) (pa_cons pe_int (pa_cons (pe_op op_add pe_int (pe_call (ok_draw T B) (hr.mono (by decide)) rfl T.g_draw T.F_draw.kp T.b_draw .nil pass0 (pa_cons (pv 0) (pa_cons pe_int pa_nil)))) pa_nil))))))
  (pss_cons (ps_for PassesOwn.never rfl (pi_list (pe_dget (hu_of hr) (pv 1) pe_str (fun _ _ => rfl))) (pg_tup rfl (pgs_cons (pg_name (i := 4) sc_nearly_kept.nd rfl (Or.inl rfl)) (pgs_cons (pg_name (i := 5) sc_nearly_kept.nd rfl (Or.inr rfl)) pgs_nil))) (pss_cons (ps_set (i := 6) sc_nearly_kept.nd rfl (Or.inl rfl) (pe_call (ok_draw T B) (hr.mono (by decide)) rfl T.g_draw T.F_draw.kp T.b_draw .nil pass0 (pa_cons (pv 0) (pa_cons pe_int pa_nil))))
  (pss_join (ps_if (pt_cmpR op_eq (pv 6) pe_int (nomark _)) (pss_one (ps_dput (hu_of hr) (pv 3) (pv 4) (pe_callB sorted_rows (by rfl) T.z_sorted (by decide +kernel) (pa_cons (pe_dget (hu_of hr) (pv 3) (pv 4) (fun _ _ => rfl)) pa_nil)) rfl)) pss_nil)
  (pss_join (ps_if (pt_cmpR op_eq (pv 6) pe_int (nomark _)) (pss_one (ps_dput (hu_of hr) (pv 3) (pv 4) (pe_slice (sl_listS (K := K)) (pe_dget (hu_of hr) (pv 3) (pv 4) (fun _ _ => rfl)) po_none (po_some (pe_call (ok_draw T B) (hr.mono (by decide)) rfl T.g_draw T.F_draw.kp T.b_draw .nil pass0 (pa_cons (pv 0) (pa_cons pe_int pa_nil))))) rfl)) pss_nil)
  (pss_join (ps_if (pt_cmpR op_eq (pv 6) pe_int (nomark _)) (pss_one (ps_dput (hu_of hr) (pv 3) (pv 4) (pe_lc (own := [("_law_k", 7)]) (g := gName 7) (tt := tYes) rfl sc_nearly_kept.nd (pi_range1 (by rfl) T.z_range (pa_cons (pe_call (ok_draw T B) (hr.mono (by decide)) rfl T.g_draw T.F_draw.kp T.b_draw .nil pass0 (pa_cons (pv 0) (pa_cons pe_int pa_nil))) pa_nil)) (blkOk_by (own := [("_law_k", 7)]) (N := n_nearly_kept) (sc := defScope s_nearly_kept) (by decide +kernel)) (fun _ _ _ _ _ => (pg_name (i := 7) sc_nearly_kept.nd rfl (Or.inl rfl))) (fun _ _ _ _ _ => pts_nil) (fun _ _ _ _ _ => (pe_op (op_repA (K := K)) (pe_tupS (pa_cons (pv 7) pa_nil)) (pe_callB (len_ofK (K := K)) (by rfl) T.z_len (by decide +kernel) (pa_cons (pv 5) pa_nil))))) rfl)) pss_nil)
  (pss_one (ps_if (pt_cmpR op_eq (pv 6) pe_int (nomark _)) (pss_one (ps_dput (hu_of hr) (pv 3) (pv 4) (pe_op op_rep (pe_lstS (pa_cons (pe_op (op_repA (K := K)) (pe_tupS (pa_cons (pe_call (ok_draw T B) (hr.mono (by decide)) rfl T.g_draw T.F_draw.kp T.b_draw .nil pass0 (pa_cons (pv 0) (pa_cons pe_int pa_nil))) pa_nil)) (pe_callB call_len_seq (by rfl) T.z_len (by decide +kernel) (pa_cons (pv 5) pa_nil))) pa_nil)) (pe_call (ok_draw T B) (hr.mono (by decide)) rfl T.g_draw T.F_draw.kp T.b_draw .nil pass0 (pa_cons (pv 0) (pa_cons pe_int pa_nil)))) rfl)) pss_nil)))))))
  (pss_one (ps_ret (pv 3))))), ?_⟩
    refine ⟨_, rfl, _, rfl, _, rfl, p, c, ns, n, 6, rfl, hp, by omega, by decide, ok_small (by decide), fun d0 H1 d1 d2 hp1 b1 => ?_⟩
    refine ⟨_, _, rfl, rfl, p, c, ns, n + 1, a, tabs, 10, 2 + d0, rfl, hp1, by omega, hP.but hp b1, hT, by omega, by omega, by omega, by omega, fun dat d H2 f2 hd hda hp2 b2 => ?_⟩
    have hdH : H d = none := by
      obtain ⟨o, e⟩ := hp1.pre
      exact But.free b1 e hd
    have ndp : d ≠ p := fun z => by
      obtain ⟨o, e⟩ := hp.pre
      rw [z, e] at hdH; cases hdH
    have ndc : d ≠ c := fun z => by
      have e := hp.cells
      rw [← z, hdH] at e; cases e
    have r0 : NR p c d ns H H2 dat (n + 1 + 1000) := ⟨hp2, b1.trans b2, ndp, ndc, hdH, hda⟩
    obtain ⟨lt, li, lb, qs, t1, t2, t3⟩ := hP.but hp (b1.trans b2)
    have hql := Paired.length t3
    have h4 := hT.few
    obtain ⟨lt', li', lb', qs', t1', t2', t3'⟩ := hP
    have keep : ∀ {H' : Hp} {dat : Dat} {N : Nat}, NR p c d ns H H' dat N → ∀ {b : Addr} {xs : List V}, H b = some (.lst xs) → H' b = some (.lst xs) := fun q b xs e => (Lts.but q.but hp.pre).1 _ _ e
    have keepT : ∀ {H' : Hp} {dat : Dat} {N : Nat}, NR p c d ns H H' dat N → ∀ {b : Addr} {xs : List V}, H b = some (.tup xs) → H' b = some (.tup xs) := fun q b xs e => (Lts.but q.but hp.pre).2 _ _ e
    have ea : lt = lt' := by
      have z := (b1.trans b2) _ _ (fun z => by
        obtain ⟨t, l2, e, _⟩ := hp.d
        rw [z, e] at t1'
        cases t1') t1'
      rw [z] at t1
      cases t1; rfl
    subst ea
    refine ⟨_, rfl, a, .ref lt, rfl, .inl ⟨_, .inr "tables", .inl t1, rfl, rfl⟩, lt, rfl, ⟨_, SqL.of t2⟩, ?_⟩
    have hql' := Paired.length t3'
    refine for_list (xs := qs'.map V.ref) (fun i σ H' => ∃ (v4 v5 v6 v7 : Option V) (dat : Dat), σ = [some (.ref p), some (.ref a), some (.ref ll), some (.ref d), v4, v5, v6, v7] ∧ NR p c d ns H H' dat (n + 1 + 1000 + 20 * i) ∧ FullDat tabs 10 dat) ⟨none, none, none, none, dat, rfl, r0, f2⟩ (fun i σ H' _ ⟨_, _, _, _, _, _, q, _⟩ => SqL.of (keep q t2')) ?_ ?_
    · rintro i x σ H3 hx ⟨v4, v5, v6, v7, dat3, rfl, q3, f3⟩
      have hi : i < tabs.length := by
        rcases Nat.lt_or_ge i tabs.length with h | h
        · exact h
        · rw [List.getElem?_eq_none (by rw [List.length_map]; omega)] at hx; cases hx
      rw [List.getElem?_map, List.getElem?_eq_getElem (show i < qs'.length by omega)] at hx
      cases hx
      obtain ⟨cl, g1, g2⟩ := paired_get t3' (List.getElem?_eq_getElem (show i < qs'.length by omega)) (List.getElem?_eq_getElem hi)
      have et : tabs[i]? = some tabs[i] := List.getElem?_eq_getElem hi
      obtain ⟨cN1, cN2, _, _⟩ := hT.cols _ (List.getElem_mem hi)
      generalize tabs[i] = t at g1 g2 et cN1 cN2
      have hpos : 0 < t.2.length := List.length_pos_iff.mpr cN1
      refine ⟨_, _, rfl, SqT.of (keepT q3 g1), rfl, _, _, rfl, _, _, rfl, rfl, ?_⟩
      refine ⟨_, rfl, p, c, ns, _, 5, rfl, q3.pen, by omega, by decide, ok_small (by decide), fun way H4 w1 w2 hp4 b4 => ?_⟩
      have q4 := q3.step b4 hp4
      have el : ∀ {dat : Dat} (_ : FullDat tabs 10 dat), dat.length ≤ 1000 := fun f => by rw [f.len]; omega
      refine ⟨fun σ' H' => ∃ (v7 : Option V) (dat' : Dat), σ' = [some (.ref p), some (.ref a), some (.ref ll), some (.ref d), some (.str t.1), some (.ref cl), some (.int way), v7] ∧ NR p c d ns H H' dat' (n + 1 + 1000 + 20 * i + 1) ∧ FullDat tabs 10 dat', ?_, ?_⟩
      · refine ⟨_, rfl, rfl, _, rfl, ?_⟩
        cases decide (V.int way = V.int 0) with
        | false => exact iteF ⟨v7, dat3, rfl, q4, f3⟩
        | true =>
          obtain ⟨rs, r1, r2, r3⟩ := f3.get hT.nd et
          obtain ⟨l, dg, hr⟩ := q4.get r1
          obtain ⟨qr, el1, hqr⟩ := hr
          refine iteT ⟨_, rfl, _, rfl, d, .ref l, rfl, dg, l, qr.map V.ref, t.2.length, rfl, SqL.of el1, hpos, ?_, fun ys np hperm hnp => ?_⟩
          · intro y hy
            obtain ⟨q, r, e, ra, l⟩ := rows_each hqr r3 y hy
            exact ⟨r, ⟨q, e, SqT.of ra⟩, l⟩
          · obtain ⟨qs2, rs2, rfl, hp2, hl2, hn2⟩ := rows_any (ys := ys) (n := t.2.length) fun y hy => rows_each hqr r3 y (hperm.mem_iff.mp hy)
            have s5 : Same H4 (upd H4 np (.lst (qs2.map V.ref))) := Same.new (Same.refl _) hnp
            have q5 := q4.step (But.of s5) (q4.pen.same s5)
            obtain ⟨H6, p6, q6⟩ := q5.put (x := t.1) (l := np) (rs := rs2) ⟨qs2, upd_same, Paired.mapP hp2 fun q r e => s5 _ _ e⟩ (el f3)
            have hlen : rs2.length ≤ 10 := by
              have z := hperm.length_eq
              have z2 := Paired.length hqr
              rw [List.length_map] at z hl2
              rw [List.length_map] at z
              omega
            exact ⟨_, rfl, _, rfl, d, H6, rfl, p6, v7, _, rfl, q6, f3.put hT.nd et hlen hn2⟩
      rintro σ5 H5 ⟨v7b, dat5, rfl, q5, f5⟩
      refine ⟨fun σ' H' => ∃ (v7 : Option V) (dat' : Dat), σ' = [some (.ref p), some (.ref a), some (.ref ll), some (.ref d), some (.str t.1), some (.ref cl), some (.int way), v7] ∧ NR p c d ns H H' dat' (n + 1 + 1000 + 20 * i + 2) ∧ FullDat tabs 10 dat', ?_, ?_⟩
      · refine ⟨_, rfl, rfl, _, rfl, ?_⟩
        cases decide (V.int way = V.int 1) with
        | false => exact iteF ⟨v7b, dat5, rfl, q5.mono (by omega), f5⟩
        | true =>
          obtain ⟨rs, r1, r2, r3⟩ := f5.get hT.nd et
          obtain ⟨l, dg, hr⟩ := q5.get r1
          obtain ⟨qr, el1, hqr⟩ := hr
          refine iteT ⟨_, rfl, _, rfl, d, .ref l, rfl, dg, ?_⟩
          refine ⟨_, rfl, p, c, ns, _, 3, rfl, q5.pen, by omega, by decide, ok_small (by decide), fun e0 H6 e1 e2 hp6 b6 => ⟨e0, rfl, l, _, rfl, SqL.of ((Lts.but b6 q5.pen.pre).1 _ _ el1), fun np H7 nnp s7 e7 => ?_⟩⟩
          have k6 := Lts.but b6 q5.pen.pre
          have q6 := q5.step b6 hp6
          have q7 := q6.step (But.of s7) (q6.pen.same s7)
          rw [cut_to _ (z := e0) (k := e0.toNat) (by omega) (by omega)] at e7
          obtain ⟨qs2, rs2, eq2, hp2, hl2, hn2⟩ := rows_any (ys := (qr.map V.ref).take e0.toNat) (n := t.2.length) fun y hy => rows_each hqr r3 y (List.mem_of_mem_take hy)
          rw [eq2] at e7
          obtain ⟨H8, p8, q8⟩ := q7.put (x := t.1) (l := np) (rs := rs2) ⟨qs2, e7, Paired.mapP hp2 fun q r e => s7 _ _ (k6.2 _ _ e)⟩ (el f5)
          have hlen : rs2.length ≤ 10 := by
            rw [hl2, List.length_take]
            omega
          exact ⟨_, rfl, _, rfl, d, H8, rfl, p8, v7b, _, rfl, q8.mono (by omega), f5.put hT.nd et hlen hn2⟩
      rintro σ6 H6 ⟨v7c, dat6, rfl, q6, f6⟩
      have hcl : ∀ {H' : Hp} {dat : Dat} {N : Nat}, NR p c d ns H H' dat N → H' cl = some (.lst (t.2.map V.str)) := fun q => keep q g2
      have rep : ∀ (m : Nat) (x : Int), (List.replicate m [V.int x]).flatten = (List.replicate m x).map V.int := fun m x => by simp
      refine ⟨fun σ' H' => ∃ (v7 : Option V) (dat' : Dat), σ' = [some (.ref p), some (.ref a), some (.ref ll), some (.ref d), some (.str t.1), some (.ref cl), some (.int way), v7] ∧ NR p c d ns H H' dat' (n + 1 + 1000 + 20 * i + 3) ∧ FullDat tabs 10 dat', ?_, ?_⟩
      · refine ⟨_, rfl, rfl, _, rfl, ?_⟩
        cases decide (V.int way = V.int 2) with
        | false => exact iteF ⟨v7c, dat6, rfl, q6.mono (by omega), f6⟩
        | true =>
          refine iteT ⟨_, rfl, p, c, ns, _, 4, rfl, q6.pen, by omega, by decide, ok_small (by decide), fun e0 H7 e1 e2 hp7 b7 => ⟨e0, rfl, by omega, by omega, fun D hD => ?_⟩⟩
          have q7 := q6.step b7 hp7
          refine lc_grow (n := e0.toNat) hD (fun k acc H' => acc.length = k ∧ ∀ y ∈ acc, ∃ (q : Addr) (r : List Int), y = .ref q ∧ RowAt H' q r ∧ r.length = t.2.length) ?_ ?_ ?_ ?_ (small1000 (by omega)) ?_ ?_
          · rintro k acc Hc o ⟨u1, u2⟩ ⟨u, eu⟩
            refine ⟨u1, fun y hy => ?_⟩
            obtain ⟨q, r, rfl, ra, l⟩ := u2 y hy
            refine ⟨q, r, rfl, ?_, l⟩
            have ra : Hc q = some (.tup (r.map V.int)) := ra
            show L2.upd Hc D o q = _
            rw [upd_ne (fun z => by rw [z, eu] at ra; cases ra)]; exact ra
          · exact fun Hc s => ⟨rfl, fun y hy => by cases hy⟩
          · exact fun k Hc hk s => hk
          · exact fun Hc s => Nat.le_refl _
          · rintro k acc Hc F G' hF hG' hk s8 hacc ⟨u1, u2⟩ x Hc' ⟨eH, ev⟩
            subst eH
            subst ev
            refine ⟨rfl, _, rfl, (by show 1 ≤ sizeLine; decide), fun q Hq nq sq eq => ?_⟩
            have c8 := sq _ _ (s8 _ _ (hcl q7))
            refine ⟨_, rfl, cl, _, rfl, .inl (SqL.of c8), q, _, _, rfl, rfl, SqT.of eq, by simp, by omega, ?_, by simp, fun h1 => ?_, fun h1 np hnp => ?_⟩
            · rw [List.length_map]; omega
            · rw [List.length_map] at h1
              refine hF _ _ sq ⟨by rw [List.length_append, u1]; rfl, fun y hy => ?_⟩
              rcases List.mem_append.mp hy with h | h
              · obtain ⟨q', r, e, ra, l⟩ := u2 y h
                exact ⟨q', r, e, sq _ _ ra, l⟩
              · exact ⟨q, [_], List.mem_singleton.mp h, eq, by show 1 = _; omega⟩
            · have sn : Same Hq (upd Hq np (.tup (List.replicate ((((t.2.map V.str).length : Nat) : Int)).toNat [V.int (0 + (k : Int))]).flatten)) := Same.new (Same.refl _) hnp
              refine hF _ _ (sq.trans sn) ⟨by rw [List.length_append, u1]; rfl, fun y hy => ?_⟩
              rcases List.mem_append.mp hy with h | h
              · obtain ⟨q', r, e, ra, l⟩ := u2 y h
                exact ⟨q', r, e, sn _ _ (sq _ _ ra), l⟩
              · refine ⟨np, List.replicate t.2.length (0 + (k : Int)), List.mem_singleton.mp h, ?_, List.length_replicate⟩
                show upd Hq np _ np = _
                rw [upd_same, ← rep, List.length_map]; rfl
          · rintro acc H8 s8 hacc ⟨u1, u2⟩
            obtain ⟨qs2, rs2, eq2, hp2, hl2, hn2⟩ := rows_any u2
            rw [eq2] at hacc
            have q8 := q7.step (But.of s8) (q7.pen.same s8)
            obtain ⟨H9, p9, q9⟩ := q8.put (x := t.1) (l := D) (rs := rs2) ⟨qs2, hacc, hp2⟩ (el f6)
            exact ⟨_, rfl, _, rfl, d, H9, rfl, p9, v7c, _, rfl, q9.mono (by omega), f6.put hT.nd et (by omega) hn2⟩
      rintro σ7 H7 ⟨v7d, dat7, rfl, q7, f7⟩
      refine ⟨_, rfl, rfl, _, rfl, ?_⟩
      cases decide (V.int way = V.int 3) with
      | false => exact iteF ⟨_, _, _, v7d, dat7, rfl, q7.mono (by omega), f7⟩
      | true =>
        refine iteT ⟨_, rfl, p, c, ns, _, 2, rfl, q7.pen, by omega, by decide, ok_small (by decide), fun e0 H8 e1 e2 hp8 b8 => ?_⟩
        have q8 := q7.step b8 hp8
        refine ⟨(by show 1 ≤ sizeLine; decide), fun q Hq nq sq eq => ?_⟩
        have q9 := q8.step (But.of sq) (q8.pen.same sq)
        refine ⟨_, rfl, cl, _, rfl, .inl (SqL.of (hcl q9)), q, _, _, rfl, rfl, SqT.of eq, by simp, by omega, ?_, by simp, fun h1 => ?_, fun h1 np0 hnp0 => ?_⟩
        · rw [List.length_map]; omega
        · rw [List.length_map] at h1
          have eR : Hq q = some (.tup ([e0].map V.int)) := eq
          have lR : ([e0] : List Int).length = t.2.length := by show 1 = _; omega
          have qA := q9
          refine ⟨(by show 1 ≤ sizeLine; decide), fun lq H9 n9 s9 e9 => ?_⟩
          have qB := qA.step (But.of s9) (qA.pen.same s9)
          refine ⟨_, rfl, p, c, ns, _, 4, rfl, qB.pen, by omega, by decide, ok_small (by decide), fun f0 HA f1 f2 hpA bA => ?_⟩
          have qC := qB.step bA hpA
          have kA := Lts.but bA qB.pen.pre
          refine ⟨lq, f0, _, rfl, rfl, kA.1 _ _ e9, by omega, by omega, ?_, fun np hnp => ?_⟩
          · show 1 * f0.toNat ≤ sizeLine
            rw [sizeLine_eq]; omega
          have sn : Same HA (upd HA np (.lst (List.replicate f0.toNat [V.ref q]).flatten)) := Same.new (Same.refl _) hnp
          have en : (upd HA np (.lst (List.replicate f0.toNat [V.ref q]).flatten)) np = some (.lst ((List.replicate f0.toNat q).map V.ref)) := by rw [upd_same]; simp
          have qD := qC.step (But.of sn) (qC.pen.same sn)
          have hra := sn _ _ (kA.2 _ _ (s9 _ _ eR))
          obtain ⟨qs2, rs2, eq2, hp2, hl2, hn2⟩ := rows_any (H := upd HA np (.lst (List.replicate f0.toNat [V.ref q]).flatten)) (ys := (List.replicate f0.toNat q).map V.ref) (n := t.2.length) fun y hy => by
            obtain ⟨z, hz, rfl⟩ := List.mem_map.mp hy
            rw [(List.mem_replicate.mp hz).2]
            exact ⟨q, _, rfl, hra, lR⟩
          rw [eq2] at en
          obtain ⟨HB, pB, qE⟩ := qD.put (x := t.1) (l := np) (rs := rs2) ⟨qs2, en, hp2⟩ (el f7)
          have hlen : rs2.length ≤ 10 := by
            rw [hl2, List.length_map, List.length_replicate]; omega
          exact ⟨_, rfl, _, rfl, d, HB, rfl, pB, _, _, _, v7d, _, rfl, qE.mono (by omega), f7.put hT.nd et hlen hn2⟩
        · have sn0 : Same Hq (upd Hq np0 (.tup (List.replicate ((((t.2.map V.str).length : Nat) : Int)).toNat [V.int e0]).flatten)) := Same.new (Same.refl _) hnp0
          have eR : (upd Hq np0 (.tup (List.replicate ((((t.2.map V.str).length : Nat) : Int)).toNat [V.int e0]).flatten)) np0 = some (.tup ((List.replicate t.2.length e0).map V.int)) := by
            rw [upd_same, ← rep, List.length_map]; rfl
          have lR : (List.replicate t.2.length e0).length = t.2.length := List.length_replicate
          have qA := q9.step (But.of sn0) (q9.pen.same sn0)
          refine ⟨(by show 1 ≤ sizeLine; decide), fun lq H9 n9 s9 e9 => ?_⟩
          have qB := qA.step (But.of s9) (qA.pen.same s9)
          refine ⟨_, rfl, p, c, ns, _, 4, rfl, qB.pen, by omega, by decide, ok_small (by decide), fun f0 HA f1 f2 hpA bA => ?_⟩
          have qC := qB.step bA hpA
          have kA := Lts.but bA qB.pen.pre
          refine ⟨lq, f0, _, rfl, rfl, kA.1 _ _ e9, by omega, by omega, ?_, fun np hnp => ?_⟩
          · show 1 * f0.toNat ≤ sizeLine
            rw [sizeLine_eq]; omega
          have sn : Same HA (upd HA np (.lst (List.replicate f0.toNat [V.ref np0]).flatten)) := Same.new (Same.refl _) hnp
          have en : (upd HA np (.lst (List.replicate f0.toNat [V.ref np0]).flatten)) np = some (.lst ((List.replicate f0.toNat np0).map V.ref)) := by rw [upd_same]; simp
          have qD := qC.step (But.of sn) (qC.pen.same sn)
          have hra := sn _ _ (kA.2 _ _ (s9 _ _ eR))
          obtain ⟨qs2, rs2, eq2, hp2, hl2, hn2⟩ := rows_any (H := upd HA np (.lst (List.replicate f0.toNat [V.ref np0]).flatten)) (ys := (List.replicate f0.toNat np0).map V.ref) (n := t.2.length) fun y hy => by
            obtain ⟨z, hz, rfl⟩ := List.mem_map.mp hy
            rw [(List.mem_replicate.mp hz).2]
            exact ⟨np0, _, rfl, hra, lR⟩
          rw [eq2] at en
          obtain ⟨HB, pB, qE⟩ := qD.put (x := t.1) (l := np) (rs := rs2) ⟨qs2, en, hp2⟩ (el f7)
          have hlen : rs2.length ≤ 10 := by
            rw [hl2, List.length_map, List.length_replicate]; omega
          exact ⟨_, rfl, _, rfl, d, HB, rfl, pB, _, _, _, v7d, _, rfl, qE.mono (by omega), f7.put hT.nd et hlen hn2⟩
    · rintro σ H3 ⟨v4, v5, v6, v7, dat3, rfl, q3, f3⟩
      rw [List.length_map] at q3
      exact ⟨_, rfl, k dat3 d H3 f3 hdH q3.datAt (q3.pen.mono (by omega)) q3.but⟩
end
end L2.Pf
set_option maxHeartbeats 2000000
namespace L2.Pf
open PySem PySem.Spec PyProof.Rows L2.Ev L2.Tpd L2.Seti L2.Gq L2.Enf L2.Sett L2.Itr L2.Dls L2.Own L2.Ent L2.Srw L2.Tpm
/-- a dict of rows without a key -/
def dropD (dat : Dat) (x : Str) : Dat := dat.filter fun p => decide (p.1 ≠ x)
theorem paired_drop {H : Hp} {kvs : List (Key × V)} {dat : Dat} {x : Str} (h : Paired (DatF H) kvs dat) : Paired (DatF H) (dropK kvs (.inr x)) (dropD dat x) := by
  unfold dropK dropD
  induction h with
  | nil => exact .nil
  | cons g t ih =>
    rename_i kv p r s
    have e := g.1
    by_cases c : p.1 = x
    · rw [List.filter_cons_of_neg (by simp [e, c]), List.filter_cons_of_neg (by simp [c])]
      exact ih
    · rw [List.filter_cons_of_pos (by simp [e, c]), List.filter_cons_of_pos (by simp [c])]
      exact .cons g ih
theorem rowsOf_drop {dat : Dat} {x y : Str} : rowsOf (dropD dat x) y = if y = x then none else rowsOf dat y := by
  unfold rowsOf dropD
  induction dat with
  | nil => by_cases c : y = x <;> simp
  | cons p r ih =>
    by_cases c : p.1 = x
    · rw [List.filter_cons_of_neg (by simp [c]), ih]
      by_cases d : y = x
      · rw [if_pos d, if_pos d]
      · rw [if_neg d, if_neg d, List.find?_cons, decide_eq_false (fun z => d (by rw [← z, c]))]
    · rw [List.filter_cons_of_pos (by simp [c]), List.find?_cons]
      by_cases d : p.1 = y
      · rw [decide_eq_true d, if_neg (fun z => c (by rw [d, z])), List.find?_cons, decide_eq_true d]
      · rw [decide_eq_false d]
        show (List.find? _ _).map _ = _
        rw [ih, List.find?_cons, decide_eq_false d]
theorem isBad_drop {dat : Dat} {t : Str × List Str} : isBad (dropD dat t.1) t = true := by
  unfold isBad
  rw [rowsOf_drop, if_pos rfl]
theorem rowsOf_put {dat : Dat} {x y : Str} {rs : List (List Int)} : rowsOf (putD dat x rs) y = if y = x then some rs else rowsOf dat y := by
  have map : ∀ {dat : Dat}, ((dat.map (fun p => if p.1 = x then (p.1, rs) else p)).find? fun p => decide (p.1 = y)).map (·.2) = ((dat.find? fun p => decide (p.1 = y)).map (·.2)).map fun z => if y = x then rs else z := fun {dat} => by
    induction dat with
    | nil => rfl
    | cons p r ih =>
      rw [List.map_cons, List.find?_cons, List.find?_cons]
      by_cases c : p.1 = x
      · rw [if_pos c]
        by_cases d : p.1 = y
        · rw [decide_eq_true d]
          show some rs = some (if y = x then rs else p.2)
          rw [if_pos (by rw [← d, c])]
        · rw [decide_eq_false d]
          exact ih
      · rw [if_neg c]
        by_cases d : p.1 = y
        · rw [decide_eq_true d]
          show some p.2 = some (if y = x then rs else p.2)
          rw [if_neg (fun z => c (by rw [d, z]))]
        · rw [decide_eq_false d]
          exact ih
  unfold rowsOf putD
  split
  · rename_i h
    rw [map]
    by_cases c : y = x
    · rw [if_pos c]
      obtain ⟨p, hp, e⟩ := List.any_eq_true.mp h
      cases f : dat.find? (fun p => decide (p.1 = y)) with
      | none => exact absurd (by rw [c]; exact e) (List.find?_eq_none.mp f p hp)
      | some q => exact congrArg some (if_pos c)
    · rw [if_neg c]
      cases dat.find? (fun p => decide (p.1 = y)) with
      | none => rfl
      | some q => exact congrArg some (if_neg c)
  · rename_i h
    rw [List.find?_append]
    by_cases c : y = x
    · rw [if_pos c]
      have f : dat.find? (fun p => decide (p.1 = y)) = none := List.find?_eq_none.mpr fun p hp z => h (List.any_eq_true.mpr ⟨p, hp, by rw [← c]; exact z⟩)
      rw [f, Option.none_or, List.find?_cons, decide_eq_true c.symm]; rfl
    · rw [if_neg c, List.find?_cons, decide_eq_false (fun z => c z.symm)]
      cases dat.find? (fun p => decide (p.1 = y)) <;> rfl
end L2.Pf
set_option maxHeartbeats 2000000
namespace L2.Pf
open PySem PySem.Spec PyProof.Rows L2.Ev L2.Tpd L2.Seti L2.Gq L2.Enf L2.Sett L2.Itr L2.Dls L2.Own L2.Ent L2.Srw L2.Tpm
/-- tables spoiled up to a turn, and what is due -/
structure Spo (tabs : Tabs) (dat : Dat) (i : Nat) (sp : Dat) (due : List Str) : Prop where
  due : due = ((tabs.take i).filter (isBad sp)).map (·.1)
  rest : ∀ (j : Nat) t, i ≤ j → tabs[j]? = some t → rowsOf sp t.1 = rowsOf dat t.1
  names : ∀ p ∈ sp, p.1 ∈ tabs.map (·.1)
  few : sp.length ≤ tabs.length
  rows : ∀ p ∈ sp, p.2.length ≤ 11 ∧ ∀ r ∈ p.2, r.length ≤ 4
theorem isBad_of {a b : Dat} {t : Str × List Str} (h : rowsOf a t.1 = rowsOf b t.1) : isBad a t = isBad b t := by
  unfold isBad; rw [h]
theorem Spo.start {tabs : Tabs} {dat : Dat} (hD : FullDat tabs 10 dat) (h3 : ∀ t ∈ tabs, t.2.length ≤ 3) : Spo tabs dat 0 dat [] where
  due := rfl
  rest := fun _ _ _ _ => rfl
  names := fun p hp => by rw [← hD.1]; exact List.mem_map.mpr ⟨p, hp, rfl⟩
  few := Nat.le_of_eq hD.len
  rows := fun p hp => by
    obtain ⟨j, hj, e⟩ := List.getElem_of_mem hp
    have hjt : j < tabs.length := by rw [← hD.len]; exact hj
    obtain ⟨a, b⟩ := hD.2 j _ p (List.getElem?_eq_getElem hjt) (by rw [List.getElem?_eq_getElem hj, e])
    exact ⟨by omega, fun r hr => by have z := b r hr; have z2 := h3 _ (List.getElem_mem hjt); omega⟩
theorem Spo.turn {tabs : Tabs} {dat sp sp' : Dat} {i : Nat} {due : List Str} {t : Str × List Str} (h : Spo tabs dat i sp due) (nd : (tabs.map (·.1)).Nodup) (et : tabs[i]? = some t) (k : ∀ y, y ≠ t.1 → rowsOf sp' y = rowsOf sp y)
    (hn : ∀ p ∈ sp', p.1 ∈ tabs.map (·.1)) (hf : sp'.length ≤ tabs.length) (hr : ∀ p ∈ sp', p.2.length ≤ 11 ∧ ∀ r ∈ p.2, r.length ≤ 4) : Spo tabs dat (i + 1) sp' (due ++ if isBad sp' t then [t.1] else []) where
  due := by
    have e : (tabs.take i).filter (isBad sp') = (tabs.take i).filter (isBad sp) := List.filter_congr fun u hu => by
      obtain ⟨j, hj, e3⟩ := List.mem_take_iff_getElem.mp hu
      refine isBad_of (k _ fun z => ?_)
      have hjl : j < tabs.length := by omega
      have ij := nodup_ix nd et (List.getElem?_eq_getElem hjl) (by rw [e3, z])
      omega
    rw [List.take_add_one, et, List.filter_append, List.map_append, e, ← h.due]
    congr 1
    show _ = List.map _ (List.filter _ [t])
    rw [List.filter_cons]
    cases isBad sp' t <;> rfl
  rest := fun j u hj e => by
    rw [k _ (fun z => by have ij := nodup_ix nd et e z.symm; omega)]
    exact h.rest j u (by omega) e
  names := hn
  few := hf
  rows := hr
theorem Spo.here {tabs : Tabs} {dat sp : Dat} {i : Nat} {due : List Str} {t : Str × List Str} (h : Spo tabs dat i sp due) (hD : FullDat tabs 10 dat) (nd : (tabs.map (·.1)).Nodup) (et : tabs[i]? = some t) : ∃ rs, rowsOf sp t.1 = some rs ∧ rowsOf dat t.1 = some rs ∧ rs.length ≤ 10 ∧ (∀ r ∈ rs, r.length = t.2.length) ∧ isBad sp t = false := by
  obtain ⟨rs, r1, r2, r3⟩ := hD.get nd et
  have e := h.rest i t (Nat.le_refl _) et
  refine ⟨rs, by rw [e, r1], r1, r2, r3, ?_⟩
  unfold isBad
  rw [e, r1]
  show (!rs.all fun r => decide (r.length = t.2.length)) = false
  rw [List.all_eq_true.mpr fun r hr => decide_eq_true (r3 r hr)]; rfl
theorem Spo.same {tabs : Tabs} {dat sp : Dat} {i : Nat} {due : List Str} {t : Str × List Str} (h : Spo tabs dat i sp due) (hD : FullDat tabs 10 dat) (nd : (tabs.map (·.1)).Nodup) (et : tabs[i]? = some t) : Spo tabs dat (i + 1) sp due := by
  obtain ⟨rs, _, _, _, _, e⟩ := h.here hD nd et
  have z := h.turn nd et (fun _ _ => rfl) h.names h.few h.rows
  rw [e] at z
  simpa using z
theorem mem_drop {sp : Dat} {x : Str} {p : Str × List (List Int)} (h : p ∈ dropD sp x) : p ∈ sp := (List.mem_filter.mp h).1
theorem Spo.drop {tabs : Tabs} {dat sp : Dat} {i : Nat} {due : List Str} {t : Str × List Str} (h : Spo tabs dat i sp due) (nd : (tabs.map (·.1)).Nodup) (et : tabs[i]? = some t) : Spo tabs dat (i + 1) (dropD sp t.1) (due ++ [t.1]) := by
  have z := h.turn (sp' := dropD sp t.1) nd et (fun y hy => by rw [rowsOf_drop, if_neg hy]) (fun p hp => h.names p (mem_drop hp)) (Nat.le_trans (List.length_filter_le _ _) h.few) (fun p hp => h.rows p (mem_drop hp))
  rw [isBad_drop] at z
  exact z
theorem rowsOf_any {sp : Dat} {x : Str} {rs : List (List Int)} (e : rowsOf sp x = some rs) : (sp.any fun p => decide (p.1 = x)) = true := by
  unfold rowsOf at e
  obtain ⟨p, hp, _⟩ := Option.map_eq_some_iff.mp e
  have z := List.find?_some hp
  exact List.any_eq_true.mpr ⟨p, List.mem_of_find?_eq_some hp, z⟩
theorem Spo.put {tabs : Tabs} {dat sp : Dat} {i : Nat} {due : List Str} {t : Str × List Str} {rs' : List (List Int)} (h : Spo tabs dat i sp due) (hD : FullDat tabs 10 dat) (nd : (tabs.map (·.1)).Nodup) (et : tabs[i]? = some t) (h1 : rs'.length ≤ 11) (h2 : ∀ r ∈ rs', r.length ≤ 4) (hb : ∃ r ∈ rs', r.length ≠ t.2.length) : Spo tabs dat (i + 1) (putD sp t.1 rs') (due ++ [t.1]) := by
  obtain ⟨rs, r0, _⟩ := h.here hD nd et
  have ep : putD sp t.1 rs' = sp.map (fun p => if p.1 = t.1 then (p.1, rs') else p) := by
    unfold putD
    exact if_pos (rowsOf_any r0)
  have hm : ∀ p ∈ putD sp t.1 rs', ∃ q ∈ sp, p.1 = q.1 ∧ (p.2 = rs' ∨ p.2 = q.2) := fun p hp => by
    rw [ep] at hp
    obtain ⟨q, hq, e⟩ := List.mem_map.mp hp
    refine ⟨q, hq, ?_⟩
    by_cases c : q.1 = t.1
    · rw [if_pos c] at e; subst e; exact ⟨rfl, .inl rfl⟩
    · rw [if_neg c] at e; subst e; exact ⟨rfl, .inr rfl⟩
  have z := h.turn (sp' := putD sp t.1 rs') nd et (fun y hy => by rw [rowsOf_put, if_neg hy]) (fun p hp => by
    obtain ⟨q, hq, e, _⟩ := hm p hp
    rw [e]; exact h.names q hq) (by rw [ep, List.length_map]; exact h.few) (fun p hp => by
    obtain ⟨q, hq, _, e | e⟩ := hm p hp
    · rw [e]; exact ⟨h1, h2⟩
    · rw [e]; exact h.rows q hq)
  have b : isBad (putD sp t.1 rs') t = true := by
    unfold isBad
    rw [rowsOf_put, if_pos rfl]
    show (!rs'.all fun r => decide (r.length = t.2.length)) = true
    obtain ⟨r, hr, hne⟩ := hb
    cases c : rs'.all fun r => decide (r.length = t.2.length) with
    | false => rfl
    | true => exact absurd (of_decide_eq_true (List.all_eq_true.mp c r hr)) hne
  rw [b] at z
  exact z
/-- strange tables put behind the others -/
def moreD (sp : Dat) (m : List Str) : Dat := sp ++ m.map fun x => (x, [])
theorem moreD_put {sp : Dat} {m : List Str} {x : Str} (h : ∀ p ∈ sp, p.1 ≠ x) (hx : x ∉ m) : putD (moreD sp m) x [] = moreD sp (m ++ [x]) := by
  rw [putD_new]
  · unfold moreD
    rw [List.map_append, List.append_assoc]; rfl
  · unfold moreD
    rw [List.map_append]
    intro z
    rcases List.mem_append.mp z with z | z
    · obtain ⟨p, hp, e⟩ := List.mem_map.mp z
      exact h p hp e
    · rw [List.map_map] at z
      obtain ⟨y, hy, e⟩ := List.mem_map.mp z
      have e : y = x := e
      rw [e] at hy; exact hx hy
theorem colsOf_none {tabs : Tabs} {x : Str} : colsOf tabs x = none ↔ x ∉ tabs.map (·.1) := by
  unfold colsOf
  rw [Option.map_eq_none_iff, List.find?_eq_none]
  exact ⟨fun h z => by
    obtain ⟨t, ht, e⟩ := List.mem_map.mp z
    exact h t ht (decide_eq_true e), fun h t ht z => h (List.mem_map.mpr ⟨t, ht, of_decide_eq_true z⟩)⟩
theorem strange_more {tabs : Tabs} {sp : Dat} {m : List Str} (h : ∀ p ∈ sp, p.1 ∈ tabs.map (·.1)) (hm : ∀ x ∈ m, x ∉ tabs.map (·.1)) : strangeOf tabs (moreD sp m) = m := by
  unfold strangeOf moreD
  rw [List.map_append, List.filter_append, List.filter_eq_nil_iff.mpr fun x hx => ?_, List.nil_append, List.map_map]
  · have e : m.map ((fun p : Str × List (List Int) => p.1) ∘ fun x => (x, [])) = m := by
      have z : m.map ((fun p : Str × List (List Int) => p.1) ∘ fun x => (x, [])) = m.map id := rfl
      rw [z, List.map_id]
    rw [e]
    exact List.filter_eq_self.mpr fun x hx => decide_eq_true (colsOf_none.mpr (hm x hx))
  · obtain ⟨p, hp, e⟩ := List.mem_map.mp hx
    intro z
    exact colsOf_none.mp (of_decide_eq_true z) (by rw [← e]; exact h p hp)
theorem rows_more {tabs : Tabs} {sp : Dat} {m : List Str} {t : Str × List Str} (ht : t ∈ tabs) (hm : ∀ x ∈ m, x ∉ tabs.map (·.1)) : rowsOf (moreD sp m) t.1 = rowsOf sp t.1 := by
  unfold rowsOf moreD
  rw [List.find?_append]
  cases sp.find? (fun p => decide (p.1 = t.1)) with
  | some p => rfl
  | none =>
    rw [Option.none_or, List.find?_eq_none.mpr]
    intro p hp z
    obtain ⟨x, hx, e⟩ := List.mem_map.mp hp
    subst e
    have z : x = t.1 := of_decide_eq_true z
    exact hm x hx (by rw [z]; exact List.mem_map.mpr ⟨t, ht, rfl⟩)
theorem find_head {α : Type} {p : α → Bool} : ∀ {l : List α}, (l.filter p).head? = l.find? p
  | [] => rfl
  | a :: l => by
    rw [List.filter_cons, List.find?_cons]
    cases p a with
    | true => rfl
    | false => exact find_head (l := l)
/-- the first of what is due, or the empty text -/
def dueOf (l : List Str) : Str := l.head?.getD ""
def MORE : List Str := ["zz", "zzz", "yy"]
theorem more_names : ∀ x ∈ MORE, x ∉ NAMES := by decide +kernel
theorem head3 : ∀ a ∈ MORE, ∀ b ∈ MORE, ∀ c ∈ MORE, List.isPerm [a, b, c] MORE = true → sortedS [a, b, c] = true → a = ("yy" : Str) := by decide +kernel
theorem head2 : ∀ a ∈ MORE.take 2, ∀ b ∈ MORE.take 2, List.isPerm [a, b] (MORE.take 2) = true → sortedS [a, b] = true → a = ("zz" : Str) := by decide +kernel
theorem head1 : ∀ a ∈ MORE.take 1, a = ("zz" : Str) := by decide +kernel
theorem head_is {k : Nat} (hk : k ≤ 3) {ys : List Str} (h : ys.Perm (MORE.take k)) (s : sortedS ys = true) : ys.head? = (if k = 3 then some ("yy" : Str) else if k = 0 then none else some ("zz" : Str)) := by
  have hl := h.length_eq
  have hm : ∀ y ∈ ys, y ∈ MORE.take k := fun y hy => h.mem_iff.mp hy
  have hp := List.isPerm_iff.mpr h
  have hk4 : k = 0 ∨ k = 1 ∨ k = 2 ∨ k = 3 := by omega
  rcases hk4 with rfl | rfl | rfl | rfl
  · rw [List.perm_nil.mp h]; rfl
  · match ys, hl with
    | [a], _ => exact congrArg some (head1 a (hm a List.mem_cons_self))
  · match ys, hl with
    | [a, b], _ => exact congrArg some (head2 a (hm a List.mem_cons_self) b (hm b (List.mem_cons_of_mem _ List.mem_cons_self)) hp s)
  · match ys, hl with
    | [a, b, c], _ => exact congrArg some (head3 a (hm a List.mem_cons_self) b (hm b (List.mem_cons_of_mem _ List.mem_cons_self)) c (hm c (List.mem_cons_of_mem _ (List.mem_cons_of_mem _ List.mem_cons_self))) hp s)
theorem sorted_head {m : List Str} (h : ∃ k, m = MORE.take k) {ys zs : List Str} (h1 : ys.Perm m) (h2 : zs.Perm m) (s1 : sortedS ys = true) (s2 : sortedS zs = true) : ys.head? = zs.head? := by
  obtain ⟨k, rfl⟩ := h
  by_cases hk : k ≤ 3
  · rw [head_is hk h1 s1, head_is hk h2 s2]
  · have e : MORE.take k = MORE.take 3 := by rw [List.take_of_length_le (by show 3 ≤ k; omega)]; rfl
    rw [e] at h1 h2
    rw [head_is (Nat.le_refl 3) h1 s1, head_is (Nat.le_refl 3) h2 s2]
theorem Spo.told {tabs : Tabs} {dat sp : Dat} {due m zs : List Str} (h : Spo tabs dat tabs.length sp due) (hN : ∀ t ∈ tabs, t.1 ∈ NAMES) (hm : ∃ k, m = MORE.take k) (hz : zs.Perm m) (hs : sortedS zs = true) :
    (tabs.find? (isBad (moreD sp m)) = none → strangeOf tabs (moreD sp m) = [] → dueOf (due ++ zs) = "") ∧ ∀ x, Told tabs (moreD sp m) x → dueOf (due ++ zs) = x := by
  have hmn : ∀ x ∈ m, x ∉ tabs.map (·.1) := fun x hx z => by
    obtain ⟨k, rfl⟩ := hm
    obtain ⟨t, ht, e⟩ := List.mem_map.mp z
    exact more_names x (List.mem_of_mem_take hx) (by rw [← e]; exact hN t ht)
  have e1 : tabs.find? (isBad (moreD sp m)) = tabs.find? (isBad sp) := by
    rw [← find_head, ← find_head]
    congr 1
    exact List.filter_congr fun t ht => isBad_of (rows_more ht hmn)
  have e2 : strangeOf tabs (moreD sp m) = m := strange_more h.names hmn
  have e3 : due.head? = (tabs.find? (isBad sp)).map (·.1) := by
    rw [h.due, List.take_length, List.head?_map, find_head]
  rw [e1, e2]
  refine ⟨fun n1 n2 => ?_, fun x hx => ?_⟩
  · subst n2
    rw [n1] at e3
    have d0 : due = [] := List.head?_eq_none_iff.mp e3
    have z0 : zs = [] := List.perm_nil.mp hz
    rw [d0, z0]; rfl
  · unfold dueOf
    rw [List.head?_append, e3]
    rcases hx with ⟨t, ht, rfl⟩ | ⟨n1, ys, hy, sy, hh⟩
    · rw [e1] at ht
      rw [ht]; rfl
    · rw [e1] at n1
      rw [e2] at hy
      rw [n1]
      show zs.head?.getD "" = x
      rw [← sorted_head hm hy hz sy hs, hh]; rfl
end L2.Pf
set_option maxHeartbeats 2000000
namespace L2.Pf
open PySem PySem.Spec PyProof.Rows L2.Ev L2.Tpd L2.Seti L2.Gq L2.Enf L2.Sett L2.Itr L2.Dls L2.Own L2.Ent L2.Srw L2.Tpm
theorem find_onces {p : Str → Bool} (ls : List Str) : (onces ls).find? p = ls.find? p := by
  have key : ∀ (ls acc : List Str), (ls.foldl once acc).find? p = (acc ++ ls).find? p := by
    intro ls
    induction ls with
    | nil => intro acc; rw [List.append_nil]; rfl
    | cons a r ih =>
      intro acc
      rw [List.foldl_cons, ih]
      unfold once
      split
      · rename_i h
        rw [List.find?_append, List.find?_append, List.find?_cons]
        cases e : acc.find? p with
        | some y => rfl
        | none =>
          have z := List.find?_eq_none.mp e a h
          have z2 : p a = false := by cases c : p a with
            | false => rfl
            | true => exact absurd c z
          rw [z2]
      · rw [List.append_assoc]; rfl
  exact key ls []
/-- the lines that tables break -/
def brokenL (tabs : Tabs) (dat : Dat) (ls : List Str) : List Str := ls.filter fun x => !lineKept tabs dat x
theorem broken_head {tabs : Tabs} {dat : Dat} {ls : List Str} : brokenOf tabs dat ls = (brokenL tabs dat ls).head? := by
  unfold brokenOf brokenL
  rw [find_onces, find_head]
theorem broken_one {tabs : Tabs} {dat : Dat} {ls : List Str} {x : Str} (h : x ∈ ls) : textV (brokenOf tabs dat [x]) = if x ∈ brokenL tabs dat ls then V.str x else V.non := by
  rw [broken_head]
  unfold brokenL
  rw [List.filter_cons, List.filter_nil]
  cases e : lineKept tabs dat x with
  | true =>
    rw [if_neg (by simp), if_neg (fun z => by have z2 := (List.mem_filter.mp z).2; rw [e] at z2; cases z2)]; rfl
  | false =>
    rw [if_pos (by simp), if_pos (List.mem_filter.mpr ⟨h, by rw [e]; rfl⟩)]; rfl
theorem full_good {tabs : Tabs} {dat : Dat} {m : Nat} (h : FullDat tabs m dat) (nd : (tabs.map (·.1)).Nodup) : tabs.find? (isBad dat) = none ∧ strangeOf tabs dat = [] := by
  refine ⟨List.find?_eq_none.mpr fun t ht z => ?_, List.filter_eq_nil_iff.mpr fun x hx z => ?_⟩
  · obtain ⟨j, hj, e⟩ := List.getElem_of_mem ht
    obtain ⟨rs, r1, _, r3⟩ := h.get nd (by rw [List.getElem?_eq_getElem hj, e])
    unfold isBad at z
    rw [r1] at z
    have z : (!rs.all fun r => decide (r.length = t.2.length)) = true := z
    rw [List.all_eq_true.mpr fun r hr => decide_eq_true (r3 r hr)] at z
    cases z
  · rw [h.1] at hx
    exact colsOf_none.mp (of_decide_eq_true z) hx
theorem full_small {tabs : Tabs} {dat : Dat} {m : Nat} (h : FullDat tabs m dat) (hm : m ≤ 10) (h4 : tabs.length ≤ 4) (h3 : ∀ t ∈ tabs, t.2.length ≤ 3) : dat.length < 64 ∧ ∀ p ∈ dat, p.2.length < 64 ∧ ∀ r ∈ p.2, r.length ≤ 1000 := by
  refine ⟨by rw [h.len]; omega, fun p hp => ?_⟩
  obtain ⟨j, hj, e⟩ := List.getElem_of_mem hp
  have hjt : j < tabs.length := by rw [← h.len]; exact hj
  obtain ⟨a, b⟩ := h.2 j _ p (List.getElem?_eq_getElem hjt) (by rw [List.getElem?_eq_getElem hj, e])
  exact ⟨by omega, fun r hr => by have z := b r hr; have z2 := h3 _ (List.getElem_mem hjt); omega⟩
def evenD (tabs : Tabs) (f : Str × List Str → List (List Int)) : Dat := tabs.map fun t => (t.1, f t)
theorem even_full {tabs : Tabs} {f : Str × List Str → List (List Int)} {m : Nat} (h1 : ∀ t ∈ tabs, (f t).length ≤ m) (h2 : ∀ t ∈ tabs, ∀ r ∈ f t, r.length = t.2.length) : FullDat tabs m (evenD tabs f) := by
  refine ⟨by unfold evenD; rw [List.map_map]; rfl, fun i t p e1 e2 => ?_⟩
  unfold evenD at e2
  rw [List.getElem?_map, e1] at e2
  cases e2
  have ht := List.mem_of_getElem? e1
  exact ⟨h1 t ht, h2 t ht⟩
theorem even_rows {tabs : Tabs} {f : Str × List Str → List (List Int)} (nd : (tabs.map (·.1)).Nodup) {t : Str × List Str} (ht : t ∈ tabs) : rowsD (evenD tabs f) t.1 = f t := by
  unfold rowsD rowsOf evenD
  have key : ∀ {tabs : Tabs}, (tabs.map (·.1)).Nodup → t ∈ tabs → (tabs.map fun t => (t.1, f t)).find? (fun p => decide (p.1 = t.1)) = some (t.1, f t) := fun {tabs} => by
    induction tabs with
    | nil => intro _ h; cases h
    | cons u r ih =>
      intro nd h
      rw [List.map_cons, List.nodup_cons] at nd
      rw [List.map_cons, List.find?_cons]
      rcases List.mem_cons.mp h with rfl | h
      · rw [decide_eq_true rfl]
      · rw [decide_eq_false (fun z => nd.1 (List.mem_map.mpr ⟨t, h, by rw [← z]⟩))]
        exact ih nd.2 h
  rw [key nd ht]; rfl
theorem even_none {tabs : Tabs} {f : Str × List Str → List (List Int)} {x : Str} (h : ∀ t ∈ tabs, f t = []) : rowsD (evenD tabs f) x = [] := by
  unfold rowsD rowsOf evenD
  cases e : (tabs.map fun t => (t.1, f t)).find? (fun p => decide (p.1 = x)) with
  | none => rfl
  | some p =>
    obtain ⟨t, ht, rfl⟩ := List.mem_map.mp (List.mem_of_find?_eq_some e)
    exact h t ht
theorem kept_form {tabs : Tabs} {dat : Dat} {x : Str} {ws : List Str} {f : Fact} (h : Txt.split x " " = ws) (e : readWords tabs ws = some f) : lineKept tabs dat x = keepsB tabs dat f := by
  unfold lineKept; rw [h, e]
/-- tables without a row keep all but what fills them -/
theorem kept_empty {tabs : Tabs} {x : Str} (h : Form tabs x) : lineKept tabs (evenD tabs fun _ => []) x = !decide ((Txt.split x " ").head? = some ("filled" : Str)) := by
  have r0 : ∀ y, rowsD (evenD tabs fun _ => []) y = [] := fun y => even_none fun _ _ => rfl
  have v0 : ∀ p, valsD tabs (evenD tabs fun _ => []) p = [] := fun p => by unfold valsD; rw [r0]; rfl
  cases h with
  | table ht hw hs he =>
    rw [kept_form hs he, hs]
    unfold keepsB
    rcases hw with rfl | rfl
    · rw [if_pos rfl, r0]
      show true = !decide (some ("single" : Str) = some ("filled" : Str))
      decide +kernel
    · rw [if_neg (show ¬ ("filled" : Str) = ("single" : Str) by decide +kernel), if_pos rfl, r0]
      show false = !decide (some ("filled" : Str) = some ("filled" : Str))
      decide +kernel
  | column ht hy hw hs he =>
    rw [kept_form hs he, hs]
    unfold keepsB
    rcases hw with rfl | rfl
    · rw [if_neg (show ¬ ("unique" : Str) = ("single" : Str) by decide +kernel), if_neg (show ¬ ("unique" : Str) = ("filled" : Str) by decide +kernel), if_pos rfl, v0]
      show true = !decide (some ("unique" : Str) = some ("filled" : Str))
      decide +kernel
    · rw [if_neg (show ¬ ("sorted" : Str) = ("single" : Str) by decide +kernel), if_neg (show ¬ ("sorted" : Str) = ("filled" : Str) by decide +kernel), if_neg (show ¬ ("sorted" : Str) = ("unique" : Str) by decide +kernel), if_pos rfl, v0]
      show true = !decide (some ("sorted" : Str) = some ("filled" : Str))
      decide +kernel
  | found ht hy hu hz hs he =>
    rw [kept_form hs he, hs]
    unfold keepsB
    rw [if_neg (show ¬ ("found" : Str) = ("single" : Str) by decide +kernel), if_neg (show ¬ ("found" : Str) = ("filled" : Str) by decide +kernel), if_neg (show ¬ ("found" : Str) = ("unique" : Str) by decide +kernel), if_neg (show ¬ ("found" : Str) = ("sorted" : Str) by decide +kernel), v0]
    show true = !decide (some ("found" : Str) = some ("filled" : Str))
    decide +kernel
theorem zero_at {n j : Nat} : (List.replicate n (0 : Int)).getD j 0 = 0 := by
  rw [List.getD_eq_getElem?_getD, List.getElem?_replicate]
  split <;> rfl
/-- one row of noughts in each table keeps all -/
theorem kept_zero {tabs : Tabs} {x : Str} (nd : (tabs.map (·.1)).Nodup) (h : Form tabs x) : lineKept tabs (evenD tabs fun t => [List.replicate t.2.length 0]) x = true := by
  have r0 : ∀ {t}, t ∈ tabs → rowsD (evenD tabs fun t => [List.replicate t.2.length 0]) t.1 = [List.replicate t.2.length 0] := fun ht => even_rows nd ht
  have v0 : ∀ {t y}, t ∈ tabs → valsD tabs (evenD tabs fun t => [List.replicate t.2.length 0]) (t.1, y) = [0] := fun {t y} ht => by
    unfold valsD
    rw [r0 ht]
    unfold colVals
    rw [List.map_cons, List.map_nil, zero_at]
  cases h with
  | table ht hw hs he =>
    rw [kept_form hs he]
    unfold keepsB
    rcases hw with rfl | rfl
    · rw [if_pos rfl, r0 ht]; rfl
    · rw [if_neg (show ¬ ("filled" : Str) = ("single" : Str) by decide +kernel), if_pos rfl, r0 ht]; rfl
  | column ht hy hw hs he =>
    rw [kept_form hs he]
    unfold keepsB
    rcases hw with rfl | rfl
    · rw [if_neg (show ¬ ("unique" : Str) = ("single" : Str) by decide +kernel), if_neg (show ¬ ("unique" : Str) = ("filled" : Str) by decide +kernel), if_pos rfl, v0 ht]; decide
    · rw [if_neg (show ¬ ("sorted" : Str) = ("single" : Str) by decide +kernel), if_neg (show ¬ ("sorted" : Str) = ("filled" : Str) by decide +kernel), if_neg (show ¬ ("sorted" : Str) = ("unique" : Str) by decide +kernel), if_pos rfl, v0 ht]; decide
  | found ht hy hu hz hs he =>
    rw [kept_form hs he]
    unfold keepsB
    rw [if_neg (show ¬ ("found" : Str) = ("single" : Str) by decide +kernel), if_neg (show ¬ ("found" : Str) = ("filled" : Str) by decide +kernel), if_neg (show ¬ ("found" : Str) = ("unique" : Str) by decide +kernel), if_neg (show ¬ ("found" : Str) = ("sorted" : Str) by decide +kernel), v0 ht]
    show ([0] : List Int).all (fun n => decide (n ∈ valsD tabs (evenD tabs fun t => [List.replicate t.2.length 0]) (_, some _))) = true
    rw [v0 hu]; decide
theorem cut7 {x : Str} : TL.tl (cutS x none (some 7)) = (TL.tl x).take 7 := by
  unfold cutS
  rw [TL.tl_mk, HT.sIx_none, show (7 : Int) = ((7 : Nat) : Int) from rfl, HT.sIx_nat, List.drop_zero, Nat.sub_zero, TL.len_tl]
  by_cases h : 7 ≤ (TL.tl x).length
  · rw [Nat.min_eq_left h]
  · rw [Nat.min_eq_right (by omega), List.take_of_length_le (Nat.le_refl _), List.take_of_length_le (by omega)]
theorem cut7_app {a b : Str} (h : (TL.tl a).length = 7) : cutS (a ++ b) none (some 7) = a := by
  apply TL.ext_tl
  rw [cut7, TL.tl_append, List.take_append_of_le_length (by omega), List.take_of_length_le (by omega)]
theorem filled_cut {tabs order : Tabs} {x : Str} (G : ∀ t ∈ tabs, GoodTab t) (hp : order.Perm tabs) (h : FactOf order x) : decide (cutS x none (some 7) = ("filled " : Str)) = decide ((Txt.split x " ").head? = some ("filled" : Str)) := by
  have m : ∀ {t}, t ∈ order → t ∈ tabs := fun h => hp.mem_iff.mp h
  have two : ∀ {w b : Str} {wd : Str}, w = wd ++ " " → 32 ∉ TL.tl wd → 32 ∉ TL.tl b → (TL.tl w).length = 7 → decide (cutS (w ++ b) none (some 7) = ("filled " : Str)) = decide (w = ("filled " : Str)) ∧ (Txt.split (w ++ b) " ").head? = some wd := fun {w b wd} e n1 n2 l => by
    refine ⟨by rw [cut7_app l], ?_⟩
    rw [words2 (a := wd) (b := b) (by rw [e]) n1 n2]; rfl
  cases h with
  | single ht =>
    obtain ⟨z1, z2⟩ := two (w := ("single " : Str)) (wd := ("single" : Str)) (by decide +kernel) (by decide +kernel) (no_blank (G _ (m ht)).name) (by decide +kernel)
    rw [z1, z2]; decide +kernel
  | filled ht =>
    obtain ⟨z1, z2⟩ := two (w := ("filled " : Str)) (wd := ("filled" : Str)) (by decide +kernel) (by decide +kernel) (no_blank (G _ (m ht)).name) (by decide +kernel)
    rw [z1, z2]; decide +kernel
  | unique ht hy =>
    obtain ⟨z1, z2⟩ := two (w := ("unique " : Str)) (wd := ("unique" : Str)) (by decide +kernel) (by decide +kernel) (spot_nb G (m ht) hy) (by decide +kernel)
    rw [z1, z2]; decide +kernel
  | sorted ht hy =>
    obtain ⟨z1, z2⟩ := two (w := ("sorted " : Str)) (wd := ("sorted" : Str)) (by decide +kernel) (by decide +kernel) (spot_nb G (m ht) hy) (by decide +kernel)
    rw [z1, z2]; decide +kernel
  | found hij hi hj hy hz =>
    have g1 := m (List.mem_of_getElem? hi)
    have g2 := m (List.mem_of_getElem? hj)
    have e1 : ("found " : Str) = ("found" : Str) ++ " " := by decide +kernel
    have e2 : (" in " : Str) = (" " : Str) ++ "in" ++ " " := by decide +kernel
    have as : ∀ a b c : Str, a ++ (b ++ c) = a ++ b ++ c := fun a b c => TL.ext_tl (by simp only [TL.tl_append, List.append_assoc])
    rw [words4 (a := ("found" : Str)) (c := ("in" : Str)) (by rw [e1, e2, as, as]) (by decide +kernel) (spot_nb G g1 hy) (by decide +kernel) (spot_nb G g2 hz)]
    rw [decide_eq_false, decide_eq_false]
    · show ¬ some ("found" : Str) = some ("filled" : Str)
      decide +kernel
    · intro z
      have z2 := congrArg TL.tl z
      rw [cut7, TL.tl_append, TL.tl_append, TL.tl_append, tl_29, tl_27] at z2
      simp at z2
/-- what the law asks of tables without a row -/
theorem broken_empty {tabs order : Tabs} {ls : List Str} (G : ∀ t ∈ tabs, GoodTab t) (nd : (tabs.map (·.1)).Nodup) (hp : order.Perm tabs) (h : ∀ x ∈ ls, FactOf order x) : brokenOf tabs (evenD tabs fun _ => []) ls = (ls.filter fun x => decide (cutS x none (some 7) = ("filled " : Str))).head? := by
  rw [broken_head]
  unfold brokenL
  congr 1
  refine List.filter_congr fun x hx => ?_
  rw [kept_empty (fact_form G nd hp (h x hx)), Bool.not_not, filled_cut G hp (h x hx)]
theorem broken_zero {tabs order : Tabs} {ls : List Str} (G : ∀ t ∈ tabs, GoodTab t) (nd : (tabs.map (·.1)).Nodup) (hp : order.Perm tabs) (h : ∀ x ∈ ls, FactOf order x) : brokenOf tabs (evenD tabs fun t => [List.replicate t.2.length 0]) ls = none := by
  rw [broken_head]
  unfold brokenL
  rw [List.filter_eq_nil_iff.mpr fun x hx => ?_]; · rfl
  rw [kept_zero nd (fact_form G nd hp (h x hx))]; simp
end L2.Pf
set_option maxHeartbeats 2000000
namespace L2.Pf
open PySem PySem.Spec PyProof.Rows L2.Ev L2.Tpd L2.Seti L2.Gq L2.Enf L2.Sett L2.Itr L2.Dls L2.Own L2.Ent L2.Srw L2.Tpm
section
variable {P : Program} {w : World} {K : PySem.W.Frag} {mg : Str → Option Value} {base : Heap}
def sp_refusals_right (C CS PR PS : Addr) : Sp := fun vs H Q _ => ∃ (p c : Addr) (ns : List Int) (n : Nat) (f a d : Addr) (tabs : Tabs) (dat : Dat) (ls : List Str), vs = [.ref p, .ref f, .ref a, .ref d] ∧ d ≠ p ∧ Pen H p c ns n ∧ n ≤ 2 ^ 47 ∧ FactsAt C CS tabs H f ls ∧ PlainAt H a tabs ∧ DatAt H d dat ∧ FullDat tabs 10 dat ∧ DrawnTabs 4 tabs ∧ H PR = some (TabX PR) ∧ H PS = some (TabX PS) ∧
  ∀ H', Pen H' p c ns (n + 100) → But p H H' → Q (.bl true) H'
theorem dput_lst {H H' : Hp} {a : Addr} {o : List (Key × V)} {y v : V} (h : DPut H a y v H') (k : H a = some (.dK o)) : Lts H H' := by
  rcases h with ⟨kvs, k2, e, _, _, rfl⟩ | ⟨kvs, k2, b, e, _⟩
  · exact Lts.upd ⟨_, e⟩
  · rw [k] at e; cases e
theorem FactsAt.but {C CS : Addr} {tabs : Tabs} {p c : Addr} {ns : List Int} {n : Nat} {H H' : Hp} {f : Addr} {ls : List Str} (h : FactsAt C CS tabs H f ls) (q : Pen H p c ns n) (b : But p H H') : FactsAt C CS tabs H' f ls := by
  obtain ⟨dx, d, sc, o, kvs, h1, h2, h3, h4, h5⟩ := h
  have n1 : ∀ {b u}, H b = some u → (∀ o, u ≠ .dK o) → H' b = some u := fun {b' u} e no => b _ _ (fun z => by
    obtain ⟨o2, e2⟩ := q.pre
    rw [z, e2] at e; cases e; exact no _ rfl) e
  refine ⟨dx, d, sc, o, kvs, n1 h1 (fun _ z => by cases z), n1 h2 (fun _ z => by cases z), h3, h4.keepT (fun _ _ e => n1 e fun _ z => by cases z), ?_⟩
  obtain ⟨dx2, d2, o2, kvs2, t2, s1, s2, s3, s4⟩ := h5
  exact ⟨dx2, d2, o2, kvs2, t2, n1 s1 (fun _ z => by cases z), n1 s2 (fun _ z => by cases z), s3.keep (fun q o xs e => n1 e fun _ z => by cases z), n1 s4 (fun _ z => by cases z)⟩
theorem ok_refusals_right (T : TX K mg) (B : TB T base) : FnOk P w K mg base CX0 9 T.a_refusals_right T.fd_refusals_right p_refusals_right (sp_refusals_right T.C_Facts T.C_Schema T.P_is_row T.P_are_rows) := by
  refine T.F_refusals_right.ok sc_refusals_right (fun vs H Q E h => ?_) (fun cdv A outer s H vs Q E hr h => ?_)
  · obtain ⟨p, c, ns, n, f, a, d, tabs, dat, ls, rfl, _⟩ := h
    rfl
  · obtain ⟨p, c, ns, n, f, a, d, tabs, dat, ls, rfl, ndp', hp, hn, hF, hP, hD, hFD, hT, hP1, hP2, k⟩ := h
    refine ⟨_, (pss_cons (ps_set (i := 4) sc_refusals_right.nd rfl (Or.inr rfl) (pe_lc (own := [("_law_name", 5), ("_law_columns_here", 6)]) (g := gTup K 2 (gCons (gName 5) (gCons (gName 6) gNil))) (tt := tYes) rfl sc_refusals_right.nd (pi_list (pe_dget (hu_of hr) (pv 2) pe_str (fun _ _ => rfl))) (blkOk_by (own := [("_law_name", 5), ("_law_columns_here", 6)]) (N := n_refusals_right) (sc := defScope s_refusals_right) (by decide +kernel)) (fun _ _ _ _ _ => (pg_tup rfl (pgs_cons (pg_name (i := 5) sc_refusals_right.nd rfl (Or.inl rfl)) (pgs_cons (pg_name (i := 6) sc_refusals_right.nd rfl (Or.inl rfl)) pgs_nil)))) (fun _ _ _ _ _ => pts_nil) (fun _ _ _ _ _ => (pv 5))))
  (pss_cons (ps_par (i := 7) (j := 8) (by rfl) sc_refusals_right.nd rfl rfl (by decide) rfl rfl (pa_cons (pe_callTy call_dictD (by rfl) T.z_dict (by decide +kernel) (pa_cons (pv 3) pa_nil)) (pa_cons (pe_lstS pa_nil) pa_nil)) (by rfl))
  (pss_cons (ps_for PassesOwn.never rfl (pi_list (pe_dget (hu_of hr) (pv 2) pe_str (fun _ _ => rfl))) (pg_tup rfl (pgs_cons (pg_name (i := 5) sc_refusals_right.nd rfl (Or.inl rfl)) (pgs_cons (pg_name (i := 6) sc_refusals_right.nd rfl (Or.inl rfl)) pgs_nil))) (pss_cons (ps_set (i := 9) sc_refusals_right.nd rfl (Or.inl rfl) (pe_call (ok_draw T B) (hr.mono (by decide)) rfl T.g_draw T.F_draw.kp T.b_draw .nil pass0 (pa_cons (pv 0) (pa_cons pe_int pa_nil))))
  (pss_join (ps_if (pt_cmpR op_eq (pv 9) pe_int (nomark _)) (pss_one (ps_expr (pe_dpop1 (pv 7) (pv 5) ⟨rfl, rfl, rfl, rfl⟩))) pss_nil)
  (pss_join (ps_if (pt_cmpR op_eq (pv 9) pe_int (nomark _)) (pss_one (ps_dput (hu_of hr) (pv 7) (pv 5) (pe_op op_catS (pe_dget (hu_of hr) (pv 3) (pv 5) (fun _ _ => rfl)) (pe_lstS (pa_cons (pe_op (op_repA (K := K)) (pe_tupS (pa_cons pe_int pa_nil)) (pe_op op_add (pe_callB call_len_seq (by rfl) T.z_len (by decide +kernel) (pa_cons (pv 6) pa_nil)) pe_int)) pa_nil))) rfl)) pss_nil)
  (pss_join (ps_if (pt_cmpR op_eq (pv 9) pe_int (nomark _)) (pss_one (ps_dput (hu_of hr) (pv 7) (pv 5) (pe_op op_catS (pe_lstS (pa_cons (pe_op (op_repA (K := K)) (pe_tupS (pa_cons pe_int pa_nil)) (pe_op op_sub (pe_callB call_len_seq (by rfl) T.z_len (by decide +kernel) (pa_cons (pv 6) pa_nil)) pe_int)) pa_nil)) (pe_dget (hu_of hr) (pv 3) (pv 5) (fun _ _ => rfl))) rfl)) pss_nil)
  (pss_one (ps_set (i := 8) sc_refusals_right.nd rfl (Or.inl rfl) (pe_op op_catS (pv 8) (pe_op op_rep (pe_lstS (pa_cons (pv 5) pa_nil)) (pe_callTy call_int1 (by rfl) T.z_int (by decide +kernel) (pa_cons (pe_cmpR op_lt (pv 9) pe_int (nomark _)) pa_nil)))))))))))
  (pss_cons (ps_set (i := 10) sc_refusals_right.nd rfl (Or.inl rfl) (pe_slice (sl_listS (K := K)) (pe_lstS (pa_cons pe_str (pa_cons pe_str (pa_cons pe_str pa_nil)))) po_none (po_some (pe_call (ok_draw T B) (hr.mono (by decide)) rfl T.g_draw T.F_draw.kp T.b_draw .nil pass0 (pa_cons (pv 0) (pa_cons pe_int pa_nil))))))
  (pss_cons (ps_for PassesOwn.never rfl (pi_list (pv 10)) (pg_name (i := 5) sc_refusals_right.nd rfl (Or.inl rfl)) (pss_one (ps_dput (hu_of hr) (pv 7) (pv 5) (pe_lstS pa_nil) rfl)))
  (pss_cons (ps_set (i := 8) sc_refusals_right.nd rfl (Or.inl rfl) (pe_op op_catS (pv 8) (pe_callB cr_sortedS (by rfl) T.z_sorted (by decide +kernel) (pa_cons (pe_lc (own := [("_law_name", 5)]) (g := gName 5) (tt := _) rfl sc_refusals_right.nd (pi_list (pv 10)) (blkOk_by (own := [("_law_name", 5)]) (N := n_refusals_right) (sc := defScope s_refusals_right) (by decide +kernel)) (fun _ _ _ _ _ => (pg_name (i := 5) sc_refusals_right.nd rfl (Or.inl rfl))) (fun _ _ _ _ _ => pts_one (pt_cmpR (op_notInK (K := K)) (pv 5) (pv 4) (by rfl))) (fun _ _ _ _ _ => (pv 5))) pa_nil))))
  (pss_one (ps_ret (pe_cmpR op_eq (pe_call (ok_told_table T B) (hr.mono (by decide)) rfl T.g_told_table T.F_told_table.kp T.b_told_table .nil pass0 (pa_cons (pv 1) (pa_cons (pv 7) pa_nil))) (pe_ifExp (pt_cmpR (op_neNil hr.units0) (pv 8) (pe_lstS pa_nil) (nomark _)) (pe_ix ix_list (pv 8) pe_int (fun _ _ => rfl)) pe_str) (nomark _)))))))))), ?_⟩
    obtain ⟨lt, li, lb, qs, t1, t2, t3⟩ := hP
    have hql := Paired.length t3
    have h4 := hT.few
    have nd := hT.nd
    have h3 : ∀ t ∈ tabs, t.2.length ≤ 3 := fun t ht => (hT.cols t ht).2.1
    refine ⟨_, rfl, a, .ref lt, rfl, .inl ⟨_, .inr "tables", .inl t1, rfl, rfl⟩, lt, rfl, ⟨_, SqL.of t2⟩, fun D hD0 => ?_⟩
    refine lc_grow (n := tabs.length) hD0 (fun i acc H' => acc = ((tabs.take i).map (·.1)).map V.str) (fun i acc H' o hp _ => hp) (fun _ _ => rfl)
      (fun i H' hi s1 => ⟨_, V.ref (qs[i]'(by omega)), SqL.of (s1 _ _ t2), by rw [List.getElem?_map, List.getElem?_eq_getElem (by omega)]; rfl⟩) (fun H' s1 => ⟨_, SqL.of (s1 _ _ t2), by rw [List.length_map]; omega⟩) (small1000 (by omega)) (fun i acc H' F G hF hG hi s1 hacc hp v H2 yl => ?_) (fun acc HA s1 ha hpa => ?_)
    · obtain ⟨eH, ev⟩ := yl
      subst eH
      have ev := ev _ (SqL.of (s1 _ _ t2))
      rw [List.getElem?_map, List.getElem?_eq_getElem (show i < qs.length by omega)] at ev
      cases ev
      obtain ⟨c0, g1, g2⟩ := paired_get t3 (List.getElem?_eq_getElem (show i < qs.length by omega)) (List.getElem?_eq_getElem hi)
      refine ⟨_, _, rfl, SqT.of (s1 _ _ g1), rfl, _, _, rfl, _, _, rfl, rfl, rfl, ?_⟩
      refine ⟨_, rfl, hF _ _ (Same.refl _) ?_⟩
      rw [hp, List.take_add_one, List.getElem?_eq_getElem hi, List.map_append, List.map_append]; rfl
    rw [List.take_length] at hpa
    subst hpa
    have hpA := hp.same s1
    obtain ⟨kvs, d1, d2⟩ := hD
    have d2 : Paired (DatF H) kvs dat := d2
    refine ⟨_, rfl, d, kvs, rfl, .inl (s1 _ _ d1), fun dd hdd => ?_⟩
    have ndp : dd ≠ p := fun z => by
      obtain ⟨o, e⟩ := hpA.pre
      rw [z, e] at hdd; cases hdd
    have ndc : dd ≠ c := fun z => by
      have e := hpA.cells
      rw [← z, hdd] at e; cases e
    have sB : Same HA (upd HA dd (.dK kvs)) := Same.new (Same.refl _) hdd
    have r0 : NR p c dd ns HA (upd HA dd (.dK kvs)) dat n := ⟨hpA.new hdd, But.new (But.refl p HA) hdd, ndp, ndc, hdd, kvs, upd_same, Paired.mapP d2 fun kv q ⟨z1, l, z2, hr⟩ => ⟨z1, l, z2, rowsAt_same hr (s1.trans sB)⟩⟩
    generalize upd HA dd (.dK kvs) = H0 at r0 sB
    refine ⟨(by show 0 ≤ sizeLine; decide), fun l0 H2 n2 s2 e2 => ⟨_, _, rfl, ?_⟩⟩
    have k12 : Lts H H0 := ⟨fun _ _ e => sB _ _ (s1 _ _ e), fun _ _ e => sB _ _ (s1 _ _ e)⟩
    have bA : ∀ {H' : Hp} {sp : Dat} {N : Nat}, NR p c dd ns HA H' sp N → But p H H' := fun q => (But.of s1).trans q.but
    have keep : ∀ {H' : Hp} {sp : Dat} {N : Nat}, NR p c dd ns HA H' sp N → ∀ {b : Addr} {xs : List V}, H b = some (.lst xs) → H' b = some (.lst xs) := fun q b xs e => (Lts.but (bA q) hp.pre).1 _ _ e
    have keepT : ∀ {H' : Hp} {sp : Dat} {N : Nat}, NR p c dd ns HA H' sp N → ∀ {b : Addr} {xs : List V}, H b = some (.tup xs) → H' b = some (.tup xs) := fun q b xs e => (Lts.but (bA q) hp.pre).2 _ _ e
    have nap : a ≠ p := fun z => by
      obtain ⟨t, l, e, _⟩ := hp.d
      rw [z, e] at t1; cases t1
    have eqi : ∀ (x y : Int), decide (V.int x = V.int y) = decide (x = y) := fun x y => by
      by_cases h : x = y
      · rw [decide_eq_true h, decide_eq_true (by rw [h])]
      · rw [decide_eq_false h, decide_eq_false (fun z => h (by cases z; rfl))]
    have rep : ∀ (m : Nat) (x : Int), (List.replicate m [V.int x]).flatten = (List.replicate m x).map V.int := fun m x => by simp
    have q2 : NR p c dd ns HA H2 dat n := r0.step (But.of s2) (r0.pen.same s2)
    refine ⟨_, rfl, a, .ref lt, rfl, .inl ⟨_, .inr "tables", .inl (bA q2 _ _ nap t1), rfl, rfl⟩, lt, rfl, ⟨_, SqL.of (keep q2 t2)⟩, ?_⟩
    refine for_list (xs := qs.map V.ref) (fun i σ H' => ∃ (v5 v6 v9 v10 : Option V) (sp : Dat) (due : List Str) (l8 : Addr), σ = [some (.ref p), some (.ref f), some (.ref a), some (.ref d), some (.ref D), v5, v6, some (.ref dd), some (.ref l8), v9, v10] ∧ NR p c dd ns HA H' sp (n + i) ∧ Spo tabs dat i sp due ∧ H' l8 = some (.lst (due.map V.str)) ∧ due.length ≤ i)
      ⟨none, none, none, none, dat, [], l0, rfl, q2, Spo.start hFD h3, e2, Nat.le_refl _⟩ (fun i σ H' _ ⟨_, _, _, _, _, _, _, _, q, _⟩ => SqL.of (keep q t2)) ?_ ?_
    · rintro i x σ H3 hx ⟨v5, v6, v9, v10, sp, due, l8, rfl, q3, hS, e8, hdl⟩
      have hi : i < tabs.length := by
        rcases Nat.lt_or_ge i tabs.length with h | h
        · exact h
        · rw [List.getElem?_eq_none (by rw [List.length_map]; omega)] at hx; cases hx
      rw [List.getElem?_map, List.getElem?_eq_getElem (show i < qs.length by omega)] at hx
      cases hx
      obtain ⟨cl, g1, g2⟩ := paired_get t3 (List.getElem?_eq_getElem (show i < qs.length by omega)) (List.getElem?_eq_getElem hi)
      have et : tabs[i]? = some tabs[i] := List.getElem?_eq_getElem hi
      have cN1 := (hT.cols _ (List.getElem_mem hi)).1
      have cN2 := h3 _ (List.getElem_mem hi)
      generalize tabs[i] = t at g1 g2 et cN1 cN2
      have hpos : 0 < t.2.length := List.length_pos_iff.mpr cN1
      obtain ⟨rs, r1, r2, r3, r4, r5⟩ := hS.here hFD nd et
      refine ⟨_, _, rfl, SqT.of (keepT q3 g1), rfl, _, _, rfl, _, _, rfl, rfl, ?_⟩
      refine ⟨_, rfl, p, c, ns, _, 6, rfl, q3.pen, by omega, by decide, ok_small (by decide), fun way H4 w1 w2 hp4 b4 => ?_⟩
      have q4 := q3.step b4 hp4
      have k4 := Lts.but b4 q3.pen.pre
      have e8 := k4.1 _ _ e8
      -- the tables' own rows at d
      have dg : ∀ {H' : Hp}, But p H H' → ∃ l, DGet H' d (.str t.1) (some (.ref l)) ∧ RowsAt H' l rs := fun {H'} b => by
        rcases dat_rows d2 t.1 with ⟨v0, z⟩ | ⟨l, rs', v0, z, hr⟩
        · rw [r2] at z; cases z
        rw [r2] at z
        cases z
        refine ⟨l, ?_, hr.lts (Lts.but b hp.pre)⟩
        have z := DGet.k (k := .inr t.1) (b _ _ ndp' d1)
        rw [v0] at z; exact z
      refine ⟨fun σ' H' => ∃ (sp' : Dat), σ' = [some (.ref p), some (.ref f), some (.ref a), some (.ref d), some (.ref D), some (.str t.1), some (.ref cl), some (.ref dd), some (.ref l8), some (.int way), v10] ∧ NR p c dd ns HA H' sp' (n + i + 1) ∧ (way = 0 → Spo tabs dat (i + 1) sp' (due ++ [t.1])) ∧ (way ≠ 0 → sp' = sp) ∧ H' l8 = some (.lst (due.map V.str)), ?_, ?_⟩
      · refine ⟨_, rfl, rfl, _, rfl, ?_⟩
        rw [eqi]
        by_cases c0 : way = 0
        · rw [decide_eq_true c0]
          obtain ⟨kv2, k1, k2⟩ := q4.dict
          rcases dat_rows k2 t.1 with ⟨v0, z⟩ | ⟨l, rs', v0, z, hr⟩
          · rw [r1] at z; cases z
          refine iteT ⟨_, rfl, dd, rfl, .inl ⟨_, .inl k1⟩, _, rfl, kv2, .inr t.1, .ref l, k1, rfl, v0, ?_⟩
          refine ⟨dropD sp t.1, rfl, ⟨q4.pen.upd ndp ndc, But.own q4.but hdd, ndp, ndc, hdd, _, upd_same, datF_lts (paired_drop k2) (Lts.upd ⟨_, k1⟩)⟩, fun _ => hS.drop nd et, fun z => absurd c0 z, ?_⟩
          exact (Lts.upd ⟨_, k1⟩).1 _ _ e8
        · rw [decide_eq_false c0]
          exact iteF ⟨sp, rfl, q4, fun z => absurd z c0, fun _ => rfl, e8⟩
      rintro σ5 H5 ⟨sp5, rfl, q5, i5, j5, e85⟩
      refine ⟨fun σ' H' => ∃ (sp' : Dat), σ' = [some (.ref p), some (.ref f), some (.ref a), some (.ref d), some (.ref D), some (.str t.1), some (.ref cl), some (.ref dd), some (.ref l8), some (.int way), v10] ∧ NR p c dd ns HA H' sp' (n + i + 1) ∧ (way < 2 → Spo tabs dat (i + 1) sp' (due ++ [t.1])) ∧ (¬ way < 2 → sp' = sp) ∧ H' l8 = some (.lst (due.map V.str)), ?_, ?_⟩
      · refine ⟨_, rfl, rfl, _, rfl, ?_⟩
        rw [eqi]
        by_cases c1 : way = 1
        · rw [decide_eq_true c1]
          have e5 := j5 (by omega)
          subst e5
          obtain ⟨l, dgl, qr, el, hqr⟩ := dg (bA q5)
          refine iteT ⟨_, rfl, _, rfl, d, .ref l, rfl, dgl, (by show 1 ≤ sizeLine; decide), fun tq H6 n6 s6 e6 => ?_⟩
          have q6 := q5.step (But.of s6) (q5.pen.same s6)
          refine ⟨_, rfl, cl, _, rfl, .inl (SqL.of (keep q6 g2)), _, _, rfl, rfl, tq, _, _, rfl, rfl, SqT.of e6, by simp, by rw [List.length_map]; omega, by rw [List.length_map]; omega, by simp, fun h1 => ?_, fun h1 np hnp => ?_⟩
          · rw [List.length_map] at h1; omega
          have wl : (((t.2.map V.str).length : Nat) : Int) + 1 = ((t.2.length + 1 : Nat) : Int) := by rw [List.length_map]; rfl
          have en : (upd H6 np (.tup (List.replicate ((((t.2.map V.str).length : Nat) : Int) + 1).toNat [V.int 0]).flatten)) np = some (.tup ((List.replicate (t.2.length + 1) 0).map V.int)) := by
            rw [upd_same, ← rep, wl, Int.toNat_natCast]
          have sn : Same H6 (upd H6 np (.tup (List.replicate ((((t.2.map V.str).length : Nat) : Int) + 1).toNat [V.int 0]).flatten)) := Same.new (Same.refl _) hnp
          generalize upd H6 np (.tup (List.replicate ((((t.2.map V.str).length : Nat) : Int) + 1).toNat [V.int 0]).flatten) = H7 at en sn
          refine ⟨(by show 1 ≤ sizeLine; decide), fun lq H8 n8 s8 e8 => ?_⟩
          have s58 := (s6.trans sn).trans s8
          refine ⟨l, lq, _, _, rfl, rfl, s58 _ _ el, e8, ?_, fun l3 H9 n9 s9 e9 => ?_⟩
          · have z := Paired.length hqr
            simp only [List.length_map, List.length_cons, List.length_nil]
            exact Nat.le_of_lt (small1000 (by omega))
          have s59 := s58.trans s9
          have q9 := q5.step (But.of s59) (q5.pen.same s59)
          obtain ⟨HB, pB, qB⟩ := q9.put (x := t.1) (l := l3) (rs := rs ++ [List.replicate (t.2.length + 1) 0]) ⟨qr ++ [np], by rw [List.map_append]; exact e9, paired_snoc (Paired.mapP hqr fun q r e => s59 _ _ e) (s9 _ _ (s8 _ _ en))⟩ (by have z := hS.few; omega)
          refine ⟨_, rfl, _, rfl, dd, HB, rfl, pB, _, rfl, qB, fun _ => hS.put hFD nd et (by rw [List.length_append]; simp; omega) (fun r hr => ?_) ⟨_, List.mem_append_right _ (List.mem_singleton_self _), by rw [List.length_replicate]; omega⟩, fun z => absurd (by omega) z, ?_⟩
          · rcases List.mem_append.mp hr with h | h
            · rw [r4 r h]; omega
            · rw [List.mem_singleton.mp h, List.length_replicate]; omega
          · obtain ⟨kv9, k9, _⟩ := q9.dict
            have z := s59 _ _ e85
            exact (dput_lst pB k9).1 _ _ z
        · rw [decide_eq_false c1]
          exact iteF ⟨sp5, rfl, q5, fun z => i5 (by omega), fun z => j5 (by omega), e85⟩
      rintro σ6 H6 ⟨sp6, rfl, q6, i6, j6, e86⟩
      refine ⟨fun σ' H' => ∃ (sp' : Dat), σ' = [some (.ref p), some (.ref f), some (.ref a), some (.ref d), some (.ref D), some (.str t.1), some (.ref cl), some (.ref dd), some (.ref l8), some (.int way), v10] ∧ NR p c dd ns HA H' sp' (n + i + 1) ∧ Spo tabs dat (i + 1) sp' (due ++ if way < 3 then [t.1] else []) ∧ H' l8 = some (.lst (due.map V.str)), ?_, ?_⟩
      · refine ⟨_, rfl, rfl, _, rfl, ?_⟩
        rw [eqi]
        by_cases c1 : way = 2
        · rw [decide_eq_true c1]
          have e5 := j6 (by omega)
          subst e5
          refine iteT ⟨(by show 1 ≤ sizeLine; decide), fun tq H7 n7 s7 e7 => ?_⟩
          have q7 := q6.step (But.of s7) (q6.pen.same s7)
          have wl : (((t.2.map V.str).length : Nat) : Int) - 1 = ((t.2.length - 1 : Nat) : Int) := by rw [List.length_map]; omega
          refine ⟨_, rfl, cl, _, rfl, .inl (SqL.of (keep q7 g2)), _, _, rfl, rfl, tq, _, _, rfl, rfl, SqT.of e7, by simp, by rw [List.length_map]; omega, by rw [List.length_map]; omega, by simp, fun h1 => ?_, fun h1 np hnp => ?_⟩
          · rw [wl] at h1
            have e7 : H7 tq = some (.tup ((List.replicate (t.2.length - 1) 0).map V.int)) := by
              rw [show t.2.length - 1 = 1 by omega]; exact e7
            refine ⟨(by show 1 ≤ sizeLine; decide), fun lq H8 n8 s8 e8' => ?_⟩
            have s68 := (s7).trans s8
            have q8 := q6.step (But.of s68) (q6.pen.same s68)
            obtain ⟨l, dgl, qr, el, hqr⟩ := dg (bA q8)
            refine ⟨_, rfl, _, rfl, d, .ref l, rfl, dgl, ?_⟩
            refine ⟨lq, l, _, _, rfl, rfl, e8', el, ?_, fun l3 H9 n9 s9 e9 => ?_⟩
            · have z := Paired.length hqr
              simp only [List.length_map, List.length_cons, List.length_nil]
              exact Nat.le_of_lt (small1000 (by omega))
            have q9 := q8.step (But.of s9) (q8.pen.same s9)
            obtain ⟨HB, pB, qB⟩ := q9.put (x := t.1) (l := l3) (rs := List.replicate (t.2.length - 1) 0 :: rs) ⟨tq :: qr, e9, .cons (s9 _ _ (s8 _ _ e7)) (Paired.mapP hqr fun q r e => s9 _ _ e)⟩ (by have z := hS.few; omega)
            refine ⟨_, rfl, _, rfl, dd, HB, rfl, pB, _, rfl, qB, ?_, ?_⟩
            · rw [if_pos (by omega)]
              refine hS.put hFD nd et (by rw [List.length_cons]; omega) (fun r hr => ?_) ⟨_, List.mem_cons_self, by rw [List.length_replicate]; omega⟩
              rcases List.mem_cons.mp hr with h | h
              · rw [h, List.length_replicate]; omega
              · rw [r4 r h]; omega
            · obtain ⟨kv9, k9, _⟩ := q9.dict
              have z := (s68.trans s9) _ _ e86
              exact (dput_lst pB k9).1 _ _ z
          · have en : (upd H7 np (.tup (List.replicate ((((t.2.map V.str).length : Nat) : Int) - 1).toNat [V.int 0]).flatten)) np = some (.tup ((List.replicate (t.2.length - 1) 0).map V.int)) := by
              rw [upd_same, ← rep, wl, Int.toNat_natCast]
            have sn : Same H7 (upd H7 np (.tup (List.replicate ((((t.2.map V.str).length : Nat) : Int) - 1).toNat [V.int 0]).flatten)) := Same.new (Same.refl _) hnp
            generalize upd H7 np (.tup (List.replicate ((((t.2.map V.str).length : Nat) : Int) - 1).toNat [V.int 0]).flatten) = Hn at en sn
            refine ⟨(by show 1 ≤ sizeLine; decide), fun lq H8 n8 s8 e8' => ?_⟩
            have s68 := (s7.trans sn).trans s8
            have q8 := q6.step (But.of s68) (q6.pen.same s68)
            obtain ⟨l, dgl, qr, el, hqr⟩ := dg (bA q8)
            refine ⟨_, rfl, _, rfl, d, .ref l, rfl, dgl, ?_⟩
            refine ⟨lq, l, _, _, rfl, rfl, e8', el, ?_, fun l3 H9 n9 s9 e9 => ?_⟩
            · have z := Paired.length hqr
              simp only [List.length_map, List.length_cons, List.length_nil]
              exact Nat.le_of_lt (small1000 (by omega))
            have q9 := q8.step (But.of s9) (q8.pen.same s9)
            obtain ⟨HB, pB, qB⟩ := q9.put (x := t.1) (l := l3) (rs := List.replicate (t.2.length - 1) 0 :: rs) ⟨np :: qr, e9, .cons (s9 _ _ (s8 _ _ en)) (Paired.mapP hqr fun q r e => s9 _ _ e)⟩ (by have z := hS.few; omega)
            refine ⟨_, rfl, _, rfl, dd, HB, rfl, pB, _, rfl, qB, ?_, ?_⟩
            · rw [if_pos (by omega)]
              refine hS.put hFD nd et (by rw [List.length_cons]; omega) (fun r hr => ?_) ⟨_, List.mem_cons_self, by rw [List.length_replicate]; omega⟩
              rcases List.mem_cons.mp hr with h | h
              · rw [h, List.length_replicate]; omega
              · rw [r4 r h]; omega
            · obtain ⟨kv9, k9, _⟩ := q9.dict
              have z := (s68.trans s9) _ _ e86
              exact (dput_lst pB k9).1 _ _ z
        · rw [decide_eq_false c1]
          refine iteF ⟨sp6, rfl, q6, ?_, e86⟩
          by_cases c2 : way < 2
          · rw [if_pos (by omega)]; exact i6 c2
          · rw [if_neg (by omega), List.append_nil, j6 c2]; exact hS.same hFD nd et
      rintro σ7 H7 ⟨sp7, rfl, q7, i7, e87⟩
      refine ⟨_, rfl, _, rfl, (by show 1 ≤ sizeLine; decide), fun l1 H8 n8 s8 e8' => ?_⟩
      refine ⟨_, rfl, _, _, rfl, rfl, .inr ⟨_, rfl, ?_⟩⟩
      refine ⟨l1, _, _, rfl, rfl, e8', ?_, ?_, ?_, fun l2 hl2 => ?_⟩
      · split <;> decide
      · split <;> decide
      · split
        · show 1 ≤ sizeLine
          decide
        · exact Nat.zero_le _
      have s9 : Same H8 (upd H8 l2 (.lst (List.replicate (if decide (way < 3) = true then (1 : Int) else 0).toNat [V.str t.1]).flatten)) := Same.new (Same.refl _) hl2
      have e9 : (upd H8 l2 (.lst (List.replicate (if decide (way < 3) = true then (1 : Int) else 0).toNat [V.str t.1]).flatten)) l2 = some (.lst ((if way < 3 then [t.1] else []).map V.str)) := by
        rw [upd_same]
        by_cases c : way < 3
        · rw [if_pos (decide_eq_true c), if_pos c]; rfl
        · rw [if_neg (by simp [c]), if_neg c]; rfl
      generalize upd H8 l2 (.lst (List.replicate (if decide (way < 3) = true then (1 : Int) else 0).toNat [V.str t.1]).flatten) = H9 at s9 e9
      have hl3 : (if way < 3 then [t.1] else []).length ≤ 1 := by split <;> simp
      refine ⟨l8, l2, _, _, rfl, rfl, s9 _ _ (s8 _ _ e87), e9, ?_, fun l3 HT nT sT eT => ?_⟩
      · rw [List.length_map, List.length_map]
        exact Nat.le_of_lt (small1000 (by omega))
      rw [← List.map_append] at eT
      have sZ := (s8.trans s9).trans sT
      exact ⟨_, _, _, _, sp7, _, l3, rfl, (q7.step (But.of sZ) (q7.pen.same sZ)).mono (by omega), i7, eT, by rw [List.length_append]; omega⟩
    · rintro σ H3 ⟨v5, v6, v9, v10, sp, due, l8, rfl, q3, hS, e8, hdl⟩
      rw [List.length_map, hql] at q3 hS hdl
      refine ⟨(by show 3 ≤ sizeLine; decide), fun lm Hm nm sm em => ?_⟩
      have qm := q3.step (But.of sm) (q3.pen.same sm)
      refine ⟨_, rfl, p, c, ns, _, 4, rfl, qm.pen, by omega, by decide, ok_small (by decide), fun e0 H6 f1 f2 hp6 b6 => ⟨e0, rfl, lm, _, rfl, SqL.of ((Lts.but b6 qm.pen.pre).1 _ _ em), fun lk H7 nk s7 e7 => ?_⟩⟩
      rw [cut_to _ (z := e0) (k := e0.toNat) (by omega) (by omega)] at e7
      have e7 : H7 lk = some (.lst ((MORE.take e0.toNat).map V.str)) := by rw [List.map_take]; exact e7
      have hmk : ∃ k, MORE.take e0.toNat = MORE.take k := ⟨_, rfl⟩
      have hml : (MORE.take e0.toNat).length ≤ 3 := by rw [List.length_take]; exact Nat.min_le_right _ _
      have hmn : (MORE.take e0.toNat).Nodup := (show MORE.Nodup by decide +kernel).sublist (List.take_sublist _ _)
      have hmt : ∀ x ∈ MORE.take e0.toNat, x ∉ tabs.map (·.1) := fun x hx z => by
        obtain ⟨t, ht, e⟩ := List.mem_map.mp z
        exact more_names x (List.mem_of_mem_take hx) (by rw [← e]; exact hT.names t ht)
      generalize MORE.take e0.toNat = m at e7 hmk hml hmn hmt
      have q6 := qm.step b6 hp6
      have q7 := q6.step (But.of s7) (q6.pen.same s7)
      have e87 := s7 _ _ ((Lts.but b6 qm.pen.pre).1 _ _ (sm _ _ e8))
      have eD : ∀ {H' : Hp} {sp' : Dat} {N : Nat}, NR p c dd ns HA H' sp' N → H' D = some (.lst ((tabs.map (·.1)).map V.str)) := fun q => (Lts.but q.but hpA.pre).1 _ _ ha
      refine ⟨_, rfl, lk, rfl, ⟨_, SqL.of e7⟩, ?_⟩
      refine for_list (xs := m.map V.str) (fun j σ H' => ∃ v5 : Option V, σ = [some (.ref p), some (.ref f), some (.ref a), some (.ref d), some (.ref D), v5, v6, some (.ref dd), some (.ref l8), v9, some (.ref lk)] ∧ NR p c dd ns HA H' (moreD sp (m.take j)) (n + 10) ∧ H' l8 = some (.lst (due.map V.str)) ∧ H' lk = some (.lst (m.map V.str)))
        ⟨v5, rfl, by rw [show moreD sp (m.take 0) = sp by unfold moreD; simp]; exact q7.mono (by omega), e87, e7⟩ (fun i σ H' _ ⟨_, _, _, _, e⟩ => SqL.of e) ?_ ?_
      · rintro j x σ H8 hx ⟨w5, rfl, q8, e88, ek8⟩
        have hj : j < m.length := by
          rcases Nat.lt_or_ge j m.length with h | h
          · exact h
          · rw [List.getElem?_eq_none (by rw [List.length_map]; omega)] at hx; cases hx
        rw [List.getElem?_map, List.getElem?_eq_getElem hj] at hx
        cases hx
        have hxm := List.getElem_mem hj
        have hxt : m[j] ∉ m.take j := fun z => by
          obtain ⟨i, hi, e⟩ := List.mem_take_iff_getElem.mp z
          have z2 := List.pairwise_iff_getElem.mp hmn i j (by omega) hj (by omega)
          exact z2 e
        refine ⟨(by show 0 ≤ sizeLine; decide), fun l1 H9 n9 s9 e9 => ?_⟩
        have q9 := q8.step (But.of s9) (q8.pen.same s9)
        have hfew := hS.few
        obtain ⟨HB, pB, qB⟩ := q9.put (x := m[j]) (l := l1) (rs := []) ⟨[], e9, .nil⟩ (by unfold moreD; rw [List.length_append, List.length_map, List.length_take]; omega)
        rw [moreD_put (fun q hq z => hmt _ hxm (by rw [← z]; exact hS.names q hq)) hxt] at qB
        obtain ⟨kv9, k9, _⟩ := q9.dict
        refine ⟨_, rfl, _, rfl, dd, HB, rfl, pB, _, rfl, ?_, (dput_lst pB k9).1 _ _ (s9 _ _ e88), (dput_lst pB k9).1 _ _ (s9 _ _ ek8)⟩
        rw [List.take_add_one, List.getElem?_eq_getElem hj]
        exact qB
      rintro σ HS ⟨w5, rfl, qS, e8S, ekS⟩
      rw [List.length_map, List.take_length] at qS
      refine ⟨_, rfl, _, rfl, lk, rfl, ⟨_, SqL.of ekS⟩, fun D2 hD2 => ?_⟩
      refine lc_grow (n := m.length) hD2 (fun i acc H' => acc = (m.take i).map V.str) (fun i acc H' o hp _ => hp) (fun _ _ => rfl)
        (fun i H' hi s1 => ⟨_, V.str (m[i]'hi), SqL.of (s1 _ _ ekS), by rw [List.getElem?_map, List.getElem?_eq_getElem hi]; rfl⟩) (fun H' s1 => ⟨_, SqL.of (s1 _ _ ekS), by rw [List.length_map]; omega⟩) (small1000 (by omega)) (fun i acc H' F G hF hG hi s1 hacc hp v H2 yl => ?_) (fun acc H8 s8 hac hpa => ?_)
      · obtain ⟨eH, ev⟩ := yl
        subst eH
        have ev := ev _ (SqL.of (s1 _ _ ekS))
        rw [List.getElem?_map, List.getElem?_eq_getElem hi] at ev
        cases ev
        have hno : inV (.str m[i]) ((tabs.map (·.1)).map V.str) = false := Bool.eq_false_iff.mpr fun z => hmt _ (List.getElem_mem hi) (mem_inV.mp z)
        refine ⟨rfl, ?_⟩
        refine ⟨_, rfl, _, rfl, D, _, rfl, .inl (SqL.of (s1 _ _ (eD qS))), rfl, all_strs _ _, true, ?_, iteT ?_⟩
        · rw [hno]; rfl
        refine ⟨_, rfl, hF _ _ (Same.refl _) ?_⟩
        rw [hp, List.take_add_one, List.getElem?_eq_getElem hi, List.map_append]; rfl
      rw [List.take_length] at hpa
      subst hpa
      refine ⟨D2, m, rfl, SqL.of hac, by omega, fun ys ps hperm hsort hps => ?_⟩
      have sP : Same H8 (upd H8 ps (.lst (ys.map V.str))) := Same.new (Same.refl _) hps
      have eP : (upd H8 ps (.lst (ys.map V.str))) ps = some (.lst (ys.map V.str)) := upd_same
      generalize upd H8 ps (.lst (ys.map V.str)) = H9 at sP eP
      have hyl := hperm.length_eq
      refine ⟨l8, ps, _, _, rfl, rfl, sP _ _ (s8 _ _ e8S), eP, ?_, fun l9 HX nX sX e9 => ?_⟩
      · rw [List.length_map, List.length_map]
        exact Nat.le_of_lt (small1000 (by omega))
      rw [← List.map_append] at e9
      have s9 := sP.trans sX
      have qX := qS.step (But.of (s8.trans s9)) (qS.pen.same (s8.trans s9))
      have bY : But p H HX := bA qX
      obtain ⟨told1, told2⟩ := hS.told hT.names hmk hperm hsort
      have hrows : ∀ q ∈ moreD sp m, q.2.length < 64 ∧ ∀ r ∈ q.2, r.length ≤ 1000 := fun q hq => by
        unfold moreD at hq
        rcases List.mem_append.mp hq with h | h
        · have z := hS.rows q h
          exact ⟨by omega, fun r hr => by have z2 := z.2 r hr; omega⟩
        · obtain ⟨x, _, e⟩ := List.mem_map.mp h
          subst e
          exact ⟨by show 0 < 64; decide, fun r hr => by cases hr⟩
      have hfew := hS.few
      have hlen : (moreD sp m).length < 64 := by unfold moreD; rw [List.length_append, List.length_map]; omega
      have nT : ∀ {b : Addr} {xs : Addr}, H b = some (TabX xs) → b ≠ p := fun e z => by
        obtain ⟨o, e2⟩ := hp.pre
        rw [z, e2] at e; cases e
      refine ⟨_, rfl, _, rfl, f, dd, tabs, moreD sp m, ls, rfl, hF.but hp bY, qX.datAt, hlen, hrows, bY _ _ (nT hP1) hP1, bY _ _ (nT hP2) hP2, by omega, nd, fun HY n1 st1 sY => ?_, fun x HY told sY => ?_⟩
      · refine ⟨_, rfl, (by show 0 ≤ sizeLine; decide), fun lz HZ nz sz ez => ?_⟩
        have ef := sz _ _ (sY _ _ e9)
        have bz : But p H HZ := bY.trans (But.of (sY.trans sz))
        have pz := qS.pen.same (((s8.trans s9).trans sY).trans sz)
        refine ⟨l9, lz, _, rfl, rfl, SqL.of ef, SqL.of ez, ?_⟩
        have ex : dueOf (due ++ ys) = ("" : Str) := told1 n1 st1
        cases hdz : due ++ ys with
        | nil =>
          rw [hdz] at ex
          have ex : ("" : Str) = ("" : Str) := ex
          refine ⟨false, rfl, iteF ⟨rfl, ?_⟩⟩
          rw [decide_eq_true (by rw [ex])]
          exact k HZ (pz.mono (by omega)) bz
        | cons y r =>
          rw [hdz] at ex ef
          have ex : y = ("" : Str) := ex
          refine ⟨true, rfl, iteT ⟨_, rfl, l9, _, 0, _, rfl, rfl, SqL.of ef, atI_nat (k := 0) rfl, rfl, ?_⟩⟩
          rw [decide_eq_true (by rw [ex])]
          exact k HZ (pz.mono (by omega)) bz
      · refine ⟨_, rfl, (by show 0 ≤ sizeLine; decide), fun lz HZ nz sz ez => ?_⟩
        have ef := sz _ _ (sY _ _ e9)
        have bz : But p H HZ := bY.trans (But.of (sY.trans sz))
        have pz := qS.pen.same (((s8.trans s9).trans sY).trans sz)
        refine ⟨l9, lz, _, rfl, rfl, SqL.of ef, SqL.of ez, ?_⟩
        have ex : dueOf (due ++ ys) = x := told2 x told
        cases hdz : due ++ ys with
        | nil =>
          rw [hdz] at ex
          have ex : ("" : Str) = x := ex
          refine ⟨false, rfl, iteF ⟨rfl, ?_⟩⟩
          rw [decide_eq_true (by rw [ex])]
          exact k HZ (pz.mono (by omega)) bz
        | cons y r =>
          rw [hdz] at ex ef
          have ex : y = x := ex
          refine ⟨true, rfl, iteT ⟨_, rfl, l9, _, 0, _, rfl, rfl, SqL.of ef, atI_nat (k := 0) rfl, rfl, ?_⟩⟩
          rw [decide_eq_true (by rw [ex])]
          exact k HZ (pz.mono (by omega)) bz
end
end L2.Pf
set_option maxHeartbeats 2000000
namespace L2.Pf
open PySem PySem.Spec PyProof.Rows L2.Ev L2.Tpd L2.Seti L2.Gq L2.Enf L2.Sett L2.Itr L2.Dls L2.Own L2.Ent L2.Srw L2.Tpm
theorem merge_nodup {kvs : List (Key × V)} : ∀ {acc : List (Key × V)}, ((acc ++ kvs).map (·.1)).Nodup → mergeK acc kvs = acc ++ kvs := by
  induction kvs with
  | nil => intro acc _; rw [List.append_nil]; rfl
  | cons kv r ih =>
    intro acc h
    have e : mergeK acc (kv :: r) = mergeK (putK acc kv.1 kv.2) r := rfl
    have n : kv.1 ∉ acc.map (·.1) := fun z => by
      rw [List.map_append, List.map_cons, List.nodup_append] at h
      exact h.2.2 _ z _ List.mem_cons_self rfl
    have p : putK acc kv.1 kv.2 = acc ++ [kv] := by
      unfold putK
      refine if_neg fun z => n ?_
      obtain ⟨q, hq, e⟩ := List.any_eq_true.mp z
      exact List.mem_map.mpr ⟨q, hq, of_decide_eq_true e⟩
    rw [e, p, ih (by rw [List.append_assoc]; exact h), List.append_assoc]; rfl
/-- pairs of a table's name and a list of rows -/
def EvenP (D : Addr) (f : Str × List Str → List (List Int)) (H : Hp) (q : Addr) (t : Str × List Str) : Prop := ∃ l, H q = some (.tup [.str t.1, .ref l]) ∧ l ≠ D ∧ RowsAt H l (f t)
theorem EvenP.upd {D : Addr} {f : Str × List Str → List (List Int)} {H : Hp} {q : Addr} {t : Str × List Str} {o : HO} (h : EvenP D f H q t) (u : ∃ u, H D = some (.lst u)) : EvenP D f (L2.upd H D o) q t := by
  obtain ⟨l, e, n, qs, e1, e2⟩ := h
  obtain ⟨u, eu⟩ := u
  have kt : ∀ {b xs}, H b = some (.tup xs) → L2.upd H D o b = some (.tup xs) := fun {b xs} e => by
    rw [upd_ne (fun z => by rw [z, eu] at e; cases e)]; exact e
  exact ⟨l, kt e, n, qs, by rw [upd_ne n]; exact e1, Paired.mapP e2 fun q r e => kt e⟩
theorem EvenP.same {D : Addr} {f : Str × List Str → List (List Int)} {H H' : Hp} {q : Addr} {t : Str × List Str} (h : EvenP D f H q t) (s : Same H H') : EvenP D f H' q t := by
  obtain ⟨l, e, n, hr⟩ := h
  exact ⟨l, s _ _ e, n, rowsAt_same hr s⟩
theorem even_pairs {K : PySem.W.Frag} {D : Addr} {f : Str × List Str → List (List Int)} {H : Hp} {qs : List Addr} {tabs : Tabs} (h : Paired (EvenP D f H) qs tabs) :
    ∃ kvs : List (Key × V), Paired (fun (q : Addr) (kv : Key × V) => SqT K H q [kV kv.1, kv.2]) qs kvs ∧ Paired (DatF H) kvs (evenD tabs f) ∧ kvs.map (·.1) = (tabs.map (·.1)).map Sum.inr := by
  induction h with
  | nil => exact ⟨[], .nil, .nil, rfl⟩
  | cons g t ih =>
    obtain ⟨l, e, _, hr⟩ := g
    obtain ⟨kvs, a, b, c⟩ := ih
    rename_i _ u _ _ _
    exact ⟨(.inr u.1, .ref l) :: kvs, .cons (SqT.of e) a, .cons ⟨rfl, l, rfl, hr⟩ b, by rw [List.map_cons, List.map_cons, List.map_cons, c]⟩
theorem even_dict {K : PySem.W.Frag} {D : Addr} {f : Str × List Str → List (List Int)} {H : Hp} {qs : List Addr} {tabs : Tabs} (nd : (tabs.map (·.1)).Nodup) (h : Paired (EvenP D f H) qs tabs) :
    ∃ kvs : List (Key × V), Paired (fun (q : Addr) (kv : Key × V) => SqT K H q [kV kv.1, kv.2]) qs kvs ∧ ∀ p, H p = none → Same H (upd H p (.dK (mergeK [] kvs))) ∧ DatAt (upd H p (.dK (mergeK [] kvs))) p (evenD tabs f) := by
  obtain ⟨kvs, a, b, c⟩ := even_pairs (K := K) h
  have m : mergeK [] kvs = kvs := merge_nodup (acc := []) (by
    rw [List.nil_append, c]
    exact List.Pairwise.map _ (fun x y n z => n (Sum.inr.inj z)) nd)
  refine ⟨kvs, a, fun p hp => ?_⟩
  have s : Same H (upd H p (.dK (mergeK [] kvs))) := Same.new (Same.refl _) hp
  refine ⟨s, kvs, by rw [m]; exact upd_same, ?_⟩
  exact Paired.mapP b fun kv p ⟨z1, l, z2, hr⟩ => ⟨z1, l, z2, rowsAt_same hr s⟩
theorem SchemaAt.but {C : Addr} {tabs : Tabs} {p c : Addr} {ns : List Int} {n : Nat} {H H' : Hp} {a : Addr} (h : SchemaAt C H a tabs) (q : Pen H p c ns n) (b : But p H H') : SchemaAt C H' a tabs := by
  obtain ⟨dx2, d2, o2, kvs2, t2, s1, s2, s3, s4⟩ := h
  have n1 : ∀ {b u}, H b = some u → (∀ o, u ≠ .dK o) → H' b = some u := fun {b' u} e no => b _ _ (fun z => by
    obtain ⟨o2, e2⟩ := q.pre
    rw [z, e2] at e; cases e; exact no _ rfl) e
  exact ⟨dx2, d2, o2, kvs2, t2, n1 s1 (fun _ z => by cases z), n1 s2 (fun _ z => by cases z), s3.keep (fun q o xs e => n1 e fun _ z => by cases z), n1 s4 (fun _ z => by cases z)⟩
theorem DatAt.but {p c d : Addr} {ns : List Int} {n : Nat} {H H' : Hp} {dat : Dat} (h : DatAt H d dat) (q : Pen H p c ns n) (b : But p H H') (nd : d ≠ p) : DatAt H' d dat := by
  obtain ⟨kvs, d1, d2⟩ := h
  exact ⟨kvs, b _ _ nd d1, datF_lts d2 (Lts.but b q.pre)⟩
theorem told_none {tabs : Tabs} {dat : Dat} {x : Str} (n1 : tabs.find? (isBad dat) = none) (n2 : strangeOf tabs dat = []) : ¬ Told tabs dat x := by
  rintro (⟨t, e, _⟩ | ⟨_, ys, hp, _, e⟩)
  · rw [n1] at e; cases e
  · rw [n2, List.perm_nil] at hp
    subst hp
    cases e
end L2.Pf
set_option maxHeartbeats 4000000
namespace L2.Pf
open PySem PySem.Spec PyProof.Rows L2.Ev L2.Tpd L2.Seti L2.Gq L2.Enf L2.Sett L2.Itr L2.Dls L2.Own L2.Ent L2.Srw L2.Tpm
section
variable {P : Program} {w : World} {K : PySem.W.Frag} {mg : Str → Option Value} {base : Heap}
theorem lcat {x y : Str} {m n : Nat} (hx : x.length ≤ m) (hy : y.length ≤ n) : (x ++ y).length ≤ m + n := by
  rw [Str.length_append]; exact Nat.add_le_add hx hy
theorem names_ok {x : Str} (h : x ∈ NAMES) : PyData.strOk x = true := by
  have z : ∀ x ∈ NAMES, PyData.strOk x = true := by decide +kernel
  exact z x h
theorem spot_ok {t : Str × List Str} {y : Str} (G : GoodTab t) (hy : y ∈ t.2) : PyData.strOk (spotOf t.1 y) = true :=
  strOk_cat (strOk_cat (names_ok G.name) (by decide +kernel)) (names_ok (G.cols y hy))
theorem spot_len {t : Str × List Str} {y : Str} (G : GoodTab t) (hy : y ∈ t.2) : (spotOf t.1 y).length ≤ 25 :=
  lcat (lcat (names_len G.name) (show ("." : Str).length ≤ 1 by decide +kernel)) (names_len (G.cols y hy))
theorem fact_ok {order : Tabs} {x : Str} (G : ∀ t ∈ order, GoodTab t) (h : FactOf order x) : PyData.strOk x = true ∧ x.length ≤ 1000 := by
  cases h with
  | single ht => exact ⟨strOk_cat (by decide +kernel) (names_ok (G _ ht).name), Nat.le_trans (lcat (show ("single " : Str).length ≤ 7 by decide +kernel) (names_len (G _ ht).name)) (by decide)⟩
  | filled ht => exact ⟨strOk_cat (by decide +kernel) (names_ok (G _ ht).name), Nat.le_trans (lcat (show ("filled " : Str).length ≤ 7 by decide +kernel) (names_len (G _ ht).name)) (by decide)⟩
  | unique ht hy => exact ⟨strOk_cat (by decide +kernel) (spot_ok (G _ ht) hy), Nat.le_trans (lcat (show ("unique " : Str).length ≤ 7 by decide +kernel) (spot_len (G _ ht) hy)) (by decide)⟩
  | sorted ht hy => exact ⟨strOk_cat (by decide +kernel) (spot_ok (G _ ht) hy), Nat.le_trans (lcat (show ("sorted " : Str).length ≤ 7 by decide +kernel) (spot_len (G _ ht) hy)) (by decide)⟩
  | found hij hi hj hy hz =>
    have g1 := G _ (List.mem_of_getElem? hi)
    have g2 := G _ (List.mem_of_getElem? hj)
    exact ⟨strOk_cat (strOk_cat (strOk_cat (by decide +kernel) (spot_ok g1 hy)) (by decide +kernel)) (spot_ok g2 hz), Nat.le_trans (lcat (lcat (lcat (show ("found " : Str).length ≤ 6 by decide +kernel) (spot_len g1 hy)) (show (" in " : Str).length ≤ 4 by decide +kernel)) (spot_len g2 hz)) (by decide)⟩
theorem onces_len : ∀ (ls : List Str), (onces ls).length ≤ ls.length := by
  have key : ∀ (ls acc : List Str), (ls.foldl once acc).length ≤ acc.length + ls.length := by
    intro ls
    induction ls with
    | nil => intro acc; simp
    | cons a r ih =>
      intro acc
      rw [List.foldl_cons]
      refine Nat.le_trans (ih _) ?_
      unfold once
      split
      · simp only [List.length_cons]; omega
      · simp only [List.length_append, List.length_cons, List.length_nil]; omega
  intro ls
  have z := key ls []
  simpa [onces] using z
/-- xs[0] if xs != [] else None -/
theorem first_or {i : Nat} {σ : L2.St} {H : Hp} {Q : VK} {D0 : Addr} {xs : List Str} (h1 : σ[i]? = some (some (.ref D0))) (h2 : H D0 = some (.lst (xs.map V.str))) (k : ∀ H', Same H H' → Q (textV xs.head?) H') :
    tIf (tTest (tOp (rNil K fun e => !e) (tVar i) (tLstS tNil))) (tOp (rIxL K) (tVar i) (tC (.int 0))) (tC .non) σ H Q := by
  refine ⟨_, h1, (by show 0 ≤ sizeLine; decide), fun lz HZ nz sz ez => ?_⟩
  refine ⟨D0, lz, _, rfl, rfl, SqL.of (sz _ _ h2), SqL.of ez, ?_⟩
  cases xs with
  | nil => exact ⟨false, rfl, iteF (k HZ sz)⟩
  | cons y r => exact ⟨true, rfl, iteT ⟨_, h1, D0, _, 0, _, rfl, rfl, SqL.of (sz _ _ h2), atI_nat (k := 0) rfl, k HZ sz⟩⟩
theorem eqv_text (o : Option Str) (h : ∀ x, o = some x → PyData.strOk x = true) : ∃ d, (∀ {H : Hp}, Dp K H (textV o) d) ∧ SeqAt.shaped d = true ∧ PyData.eqv d d = true := by
  cases o with
  | none => exact ⟨.none, .non, rfl, SeqAt.eqv_refl _ rfl⟩
  | some x => exact ⟨.str x, .str x, Bool.and_eq_true_iff.mpr ⟨h x rfl, rfl⟩, SeqAt.eqv_refl _ (h x rfl)⟩
theorem scal_text (o o2 : Option Str) : scal (textV o) (textV o2) = true := by cases o <;> cases o2 <;> rfl
def sp_law (P1 P2 P3 P4 P5 : Addr) (K : PySem.W.Frag) : Sp := fun vs H Q _ => ∃ (a : Addr) (ns : List Int), vs = [.ref a] ∧ SqL K H a (ns.map V.int) ∧ ns.length ≤ 63 ∧ H P1 = some (TabX P1) ∧ H P2 = some (TabX P2) ∧ H P3 = some (TabX P3) ∧ H P4 = some (TabX P4) ∧ H P5 = some (TabX P5) ∧ ∀ H', Same H H' → Q (.bl true) H'
theorem sp_law_ask (T : TX K mg) {H : Hp} {a : Addr} {ns : List Int} {E : XK} (hl : ns.length ≤ 63) (hH : ∀ b ∈ tabsOf T, H b = some (TabX b)) (hS : SqL K H a (ns.map V.int)) :
    sp_law T.P_is_name T.P_is_table_line T.P_leads_back T.P_is_row T.P_are_rows K [.ref a] H (fun v H' => (∀ b ∈ tabsOf T, H' b = some (TabX b)) ∧ ∀ _ : Hp, v = .bl true) E :=
  ⟨a, ns, rfl, hS, hl, hH _ (by simp [tabsOf]), hH _ (by simp [tabsOf]), hH _ (by simp [tabsOf]), hH _ (by simp [tabsOf]), hH _ (by simp [tabsOf]), fun H' s => ⟨fun b hb => s _ _ (hH b hb), fun _ => rfl⟩⟩
theorem ok_law (T : TX K mg) (B : TB T base) : FnOk P w K mg base CX0 10 T.a_law T.fd_law p_law (sp_law T.P_is_name T.P_is_table_line T.P_leads_back T.P_is_row T.P_are_rows K) := by
  refine T.F_law.ok sc_law (fun vs H Q E h => ?_) (fun cdv A outer s H vs Q E hr h => ?_)
  · obtain ⟨a, ns, rfl, _⟩ := h
    rfl
  · obtain ⟨a, ns, rfl, ha, hns, hP1, hP2, hP3, hP4, hP5, k⟩ := h
    refine ⟨_, (pss_cons (ps_set (i := 1) sc_law.nd rfl (Or.inl rfl) (pe_call (ok_begun_pen T B) (hr.mono (by decide)) rfl T.g_begun_pen T.F_begun_pen.kp T.b_begun_pen .nil pass0 (pa_cons (pv 0) pa_nil)))
  (pss_cons (ps_for PassesOwn.never rfl (pi_range1 (by rfl) T.z_range (pa_cons pe_int pa_nil)) (pg_name (i := 2) sc_law.nd rfl (Or.inl rfl)) (pss_cons (ps_set (i := 3) sc_law.nd rfl (Or.inl rfl) (pe_call (ok_drawn_tables T B) (hr.mono (by decide)) rfl T.g_drawn_tables T.F_drawn_tables.kp T.b_drawn_tables .nil pass0 (pa_cons (pv 1) (pa_cons pe_int pa_nil))))
  (pss_cons (ps_asg (pe_tupS (pa_cons (pe_disp (pps_cons pe_str (pv 3) (pps_cons pe_str (pe_lstS pa_nil) (pps_cons pe_str (pe_lstS pa_nil) pps_nil))) (by rfl) (by rfl) (fun z => by cases z) (by decide)) (pa_cons (pe_make T.mk_Schema (ok_Schema_init T B) (hr.mono (by decide)) (by rfl) T.g_Schema T.b_Schema_init .nil pass0 (pa_cons (pe_call (ok_schema_text T B) (hr.mono (by decide)) rfl T.g_schema_text T.F_schema_text.kp T.b_schema_text .nil pass0 (pa_cons (pv 3) pa_nil)) pa_nil)) pa_nil))) (pg_tup rfl (pgs_cons (pg_name (i := 4) sc_law.nd rfl (Or.inr rfl)) (pgs_cons (pg_name (i := 5) sc_law.nd rfl (Or.inl rfl)) pgs_nil))))
  (pss_cons (ps_set (i := 6) sc_law.nd rfl (Or.inl rfl) (pe_call (ok_new_facts T B) (hr.mono (by decide)) rfl T.g_new_facts T.F_new_facts.kp T.b_new_facts .nil pass0 (pa_cons (pv 1) (pa_cons (pv 3) (pa_cons (pe_op op_add pe_int (pe_call (ok_draw T B) (hr.mono (by decide)) rfl T.g_draw T.F_draw.kp T.b_draw .nil pass0 (pa_cons (pv 1) (pa_cons pe_int pa_nil)))) pa_nil)))))
  (pss_cons (ps_set (i := 7) sc_law.nd rfl (Or.inl rfl) (pe_make T.mk_Facts (ok_Facts_init T B) (hr.mono (by decide)) (by rfl) T.g_Facts T.b_Facts_init .nil passL (pa_cons (pv 5) (pa_cons (pv 6) pa_nil))))
  (pss_cons (ps_for PassesOwn.never rfl (pi_range1 (by rfl) T.z_range (pa_cons pe_int pa_nil)) (pg_name (i := 8) sc_law.nd rfl (Or.inl rfl)) (pss_cons (ps_set (i := 9) sc_law.nd rfl (Or.inr rfl) (pe_call (ok_nearly_kept T B) (hr.mono (by decide)) rfl T.g_nearly_kept T.F_nearly_kept.kp T.b_nearly_kept .nil pass0 (pa_cons (pv 1) (pa_cons (pv 4) (pa_cons (pv 6) pa_nil)))))
  (pss_cons (ps_setLc (i := 10) (own := [("_law_line", 11)]) (g := gName 11) (tt := _) rfl sc_law.nd rfl rfl (sw_true rfl rfl rfl (by decide +kernel)) (pi_list (pv 6)) (blkOk_by (own := [("_law_line", 11)]) (N := n_law) (sc := defScope s_law) (by decide +kernel)) (fun _ _ _ _ _ => (pg_name (i := 11) sc_law.nd rfl (Or.inl rfl))) (fun _ _ _ _ _ => pts_one (pt_not (pt_val (pe_call (ok_lawkeeps T B) (hr.mono (by decide)) rfl T.g_lawkeeps T.F_lawkeeps.kp T.b_lawkeeps .nil pass0 (pa_cons (pv 4) (pa_cons (pv 11) (pa_cons (pv 9) pa_nil))))))) (fun _ _ _ _ _ => (pv 11)))
  (pss_cons (ps_if (pt_cmpR op_ne (pe_meth (pv 7) T.cl_Facts T.m_Facts_broken (ok_Facts_broken T B) (hr.mono (by decide)) T.b_Facts_broken .nil passL (pa_cons (pv 9) pa_nil)) (pe_ifExp (pt_cmpR (op_neNil hr.units0) (pv 10) (pe_lstS pa_nil) (nomark _)) (pe_ix ix_list (pv 10) pe_int (fun _ _ => rfl)) pe_non) (nomark _)) (pss_one (ps_ret pe_bl)) pss_nil)
  (pss_one (ps_for PassesOwn.never rfl (pi_list (pv 6)) (pg_name (i := 11) sc_law.nd rfl (Or.inl rfl)) (pss_one (ps_if (pt_cmpR op_ne (pe_meth (pe_make T.mk_Facts (ok_Facts_init T B) (hr.mono (by decide)) (by rfl) T.g_Facts T.b_Facts_init .nil passL (pa_cons (pv 5) (pa_cons (pe_lstS (pa_cons (pv 11) pa_nil)) pa_nil))) T.cl_Facts T.m_Facts_broken (ok_Facts_broken T B) (hr.mono (by decide)) T.b_Facts_broken .nil passL (pa_cons (pv 9) pa_nil)) (pe_ifExp (pt_cmpR op_in_seq (pv 11) (pv 10) (by rfl)) (pv 11) pe_non) (nomark _)) (pss_one (ps_ret pe_bl)) pss_nil))))))))
  (pss_cons (ps_set (i := 12) sc_law.nd rfl (Or.inl rfl) (pe_callTy (call_dictP rfl) (by rfl) T.z_dict (by decide +kernel) (pa_cons (pe_lc (own := [("_law_name", 13), ("_law_columns_here", 14)]) (g := gTup K 2 (gCons (gName 13) (gCons (gName 14) gNil))) (tt := tYes) rfl sc_law.nd (pi_list (pv 3)) (blkOk_by (own := [("_law_name", 13), ("_law_columns_here", 14)]) (N := n_law) (sc := defScope s_law) (by decide +kernel)) (fun _ _ _ _ _ => (pg_tup rfl (pgs_cons (pg_name (i := 13) sc_law.nd rfl (Or.inl rfl)) (pgs_cons (pg_name (i := 14) sc_law.nd rfl (Or.inl rfl)) pgs_nil)))) (fun _ _ _ _ _ => pts_nil) (fun _ _ _ _ _ => (pe_tupS (pa_cons (pv 13) (pa_cons (pe_lstS pa_nil) pa_nil))))) pa_nil)))
  (pss_cons (ps_if (pt_cmpR (op_neD hr.units) (pe_meth (pv 7) T.cl_Facts T.m_Facts_broken (ok_Facts_broken T B) (hr.mono (by decide)) T.b_Facts_broken .nil passL (pa_cons (pv 12) pa_nil)) (pe_ix ix_list (pe_op op_catS (pe_lc (own := [("_law_line", 11)]) (g := gName 11) (tt := _) rfl sc_law.nd (pi_list (pv 6)) (blkOk_by (own := [("_law_line", 11)]) (N := n_law) (sc := defScope s_law) (by decide +kernel)) (fun _ _ _ _ _ => (pg_name (i := 11) sc_law.nd rfl (Or.inl rfl))) (fun _ _ _ _ _ => pts_one (pt_cmpR op_eq (pe_slice sl_str (pv 11) po_none (po_some pe_int)) pe_str (nomark _))) (fun _ _ _ _ _ => (pv 11))) (pe_lstS (pa_cons pe_non pa_nil))) pe_int (fun _ _ => rfl)) (nomark _)) (pss_one (ps_ret pe_bl)) pss_nil)
  (pss_cons (ps_if (pt_cmpR op_notN (pe_meth (pv 7) T.cl_Facts T.m_Facts_broken (ok_Facts_broken T B) (hr.mono (by decide)) T.b_Facts_broken .nil passL (pa_cons (pe_callTy (call_dictP rfl) (by rfl) T.z_dict (by decide +kernel) (pa_cons (pe_lc (own := [("_law_name", 13), ("_law_columns_here", 14)]) (g := gTup K 2 (gCons (gName 13) (gCons (gName 14) gNil))) (tt := tYes) rfl sc_law.nd (pi_list (pv 3)) (blkOk_by (own := [("_law_name", 13), ("_law_columns_here", 14)]) (N := n_law) (sc := defScope s_law) (by decide +kernel)) (fun _ _ _ _ _ => (pg_tup rfl (pgs_cons (pg_name (i := 13) sc_law.nd rfl (Or.inl rfl)) (pgs_cons (pg_name (i := 14) sc_law.nd rfl (Or.inl rfl)) pgs_nil)))) (fun _ _ _ _ _ => pts_nil) (fun _ _ _ _ _ => (pe_tupS (pa_cons (pv 13) (pa_cons (pe_lstS (pa_cons (pe_op (op_repA (K := K)) (pe_tupS (pa_cons pe_int pa_nil)) (pe_callB (len_ofK (K := K)) (by rfl) T.z_len (by decide +kernel) (pa_cons (pv 14) pa_nil))) pa_nil)) pa_nil))))) pa_nil)) pa_nil)) pe_non (nomark _)) (pss_one (ps_ret pe_bl)) pss_nil)
  (pss_one (ps_if (pt_not (pt_val (pe_call (ok_refusals_right T B) (hr.mono (by decide)) rfl T.g_refusals_right T.F_refusals_right.kp T.b_refusals_right .nil pass0 (pa_cons (pv 1) (pa_cons (pv 7) (pa_cons (pv 4) (pa_cons (pv 9) pa_nil))))))) (pss_one (ps_ret pe_bl)) pss_nil)))))))))))
  (pss_one (ps_ret pe_bl)))), ?_⟩
    refine ⟨_, rfl, a, ns, rfl, ha, hns, fun p c H1 np nc s1 hp => ?_⟩
    refine ⟨4, rfl, by decide, by decide, ?_⟩
    have notp : ∀ {H' : Hp} {n : Nat} {b : Addr} {u : HO}, Pen H' p c ns n → H' b = some u → (∀ o, u ≠ .dK o) → b ≠ p := fun q e no z => by
      obtain ⟨o, e2⟩ := q.pre
      rw [z, e2] at e; cases e; exact no _ rfl
    have nT : ∀ {b : Addr}, H b = some (TabX b) → b ≠ p := fun e z => by rw [z, np] at e; cases e
    have small : ∀ {n : Nat}, n ≤ 1000 → n ≤ sizeLine := fun h => Nat.le_of_lt (small1000 h)
    refine for_range (lo := 0) (n := 4) (fun i σ H' => ∃ v2 v3 v4 v5 v6 v7 v8 v9 v10 v11 v12 v13 v14 : Option V, σ = [some (.ref a), some (.ref p), v2, v3, v4, v5, v6, v7, v8, v9, v10, v11, v12, v13, v14] ∧ Pen H' p c ns (20000 * i) ∧ But p H1 H')
      ⟨none, none, none, none, none, none, none, none, none, none, none, none, none, rfl, hp, But.refl _ _⟩ ?_ ?_
    · rintro i σ H2 hi ⟨v2, v3, v4, v5, v6, v7, v8, v9, v10, v11, v12, v13, v14, rfl, hp2, b2⟩
      have tt : ∀ {H' : Hp} {b : Addr}, But p H2 H' → H b = some (TabX b) → H' b = some (TabX b) := fun bb e => bb _ _ (nT e) (b2 _ _ (nT e) (s1 _ _ e))
      -- the tables
      refine ⟨_, rfl, p, c, ns, 20000 * i, 4, rfl, hp2, by decide, by decide, by omega, fun tabs qs lt H3 D nlt elt hT nq hp3 b3 => ?_⟩
      have nltp := notp hp3 elt (fun _ z => by cases z)
      have G := D.good
      have hf := D.few
      have nd := D.nd
      have h3 : ∀ t ∈ tabs, t.2.length ≤ 3 := fun t ht => (D.cols t ht).2.1
      -- plain, schema
      refine fun pl npl => ?_
      have sp3 : Same H3 (upd H3 pl (.dK [])) := Same.new (Same.refl _) npl
      have ep3 : (upd H3 pl (.dK [])) pl = some (.dK []) := upd_same
      have nplp : pl ≠ p := fun z => by
        obtain ⟨o, e⟩ := hp3.pre
        rw [z, e] at npl; cases npl
      generalize upd H3 pl (.dK []) = HP at sp3 ep3
      refine ⟨_, rfl, (by show 0 ≤ sizeLine; decide), fun li Hi ni si ei => ⟨(by show 0 ≤ sizeLine; decide), fun lb Hb nb sb eb => ?_⟩⟩
      refine ⟨sb _ _ (si _ _ ep3), [(.inr "tables", .ref lt), (.inr "indexes", .ref li), (.inr "body", .ref lb)], rfl, (by show 3 ≤ 15; decide), ?_⟩
      rw [merge_nodup (acc := []) (kvs := [(.inr "tables", .ref lt), (.inr "indexes", .ref li), (.inr "body", .ref lb)]) (show ([(Sum.inr "tables" : Key), Sum.inr "indexes", Sum.inr "body"] : List Key).Nodup by decide +kernel), List.nil_append]
      have ePl : (upd Hb pl (.dK [(.inr "tables", .ref lt), (.inr "indexes", .ref li), (.inr "body", .ref lb)])) pl = some (.dK [(.inr "tables", .ref lt), (.inr "indexes", .ref li), (.inr "body", .ref lb)]) := upd_same
      have bPl : But pl H3 (upd Hb pl (.dK [(.inr "tables", .ref lt), (.inr "indexes", .ref li), (.inr "body", .ref lb)])) := fun q o n e => by
        rw [upd_ne n]; exact sb _ _ (si _ _ (sp3 _ _ e))
      generalize upd Hb pl (.dK [(.inr "tables", .ref lt), (.inr "indexes", .ref li), (.inr "body", .ref lb)]) = HQ at ePl bPl
      have s3Q : Same H3 HQ := fun q o e => bPl q o (fun z => by rw [z, npl] at e; cases e) e
      have hTQ : TabsAt HQ qs tabs := Paired.mapP hT fun q t ⟨c0, e1, e2⟩ => ⟨c0, s3Q _ _ e1, s3Q _ _ e2⟩
      refine ⟨_, rfl, lt, qs, tabs, rfl, s3Q _ _ elt, hTQ, D, fun H4 s4 => ?_⟩
      intro sa sdx nsa nsdx sne
      have sS : Same H4 (upd (upd H4 sdx (.own sa)) sa (.ins T.C_Schema sdx [])) := Same.new (Same.new (Same.refl _) nsdx) (by rw [upd_ne (Ne.symm sne)]; exact nsa)
      have eS : (upd (upd H4 sdx (.own sa)) sa (.ins T.C_Schema sdx [])) sa = some (.ins T.C_Schema sdx []) := upd_same
      generalize upd (upd H4 sdx (.own sa)) sa (.ins T.C_Schema sdx []) = H5 at sS eS
      have s34 := s3Q.trans s4
      have b25 : But p H2 H5 := b3.trans (But.of (s34.trans sS))
      refine ⟨sa, sdx, schemaText tabs, rfl, eS, text_good D, tt b25 hP1, tt b25 hP2, fun H6 b6 hS => ⟨rfl, ?_⟩⟩
      rw [text_tabs D] at hS
      have s46 : Same H4 H6 := fun b o e => b6 _ _ (fun z => by rw [z, nsa] at e; cases e) (sS _ _ e)
      refine ⟨(by show 2 ≤ sizeLine; decide), fun tp H7 ntp s7 etp => ?_⟩
      refine ⟨_, _, rfl, SqT.of etp, rfl, _, _, rfl, _, _, rfl, rfl, ?_⟩
      have s37 : Same H3 H7 := (s34.trans s46).trans s7
      have hp7 := hp3.same s37
      have hPl : PlainAt H7 pl tabs := ⟨lt, li, lb, qs, s7 _ _ (s46 _ _ (s4 _ _ ePl)), s37 _ _ elt, Paired.mapP hT fun q t ⟨c0, e1, e2⟩ => ⟨c0, s37 _ _ e1, s37 _ _ e2⟩⟩
      have hS7 : SchemaAt T.C_Schema H7 sa tabs := hS.same s7
      have b27 : But p H2 H7 := b3.trans (But.of s37)
      have keepLt : ∀ {H' : Hp}, But p H7 H' → H' lt = some (.lst (qs.map V.ref)) := fun b => b _ _ nltp (s37 _ _ elt)
      have keepT : ∀ {H' : Hp}, But p H7 H' → Paired (TabAt H') qs tabs := fun {H'} b => Paired.mapP hT fun q t ⟨c0, e1, e2⟩ => ⟨c0, b _ _ (notp hp3 e1 (fun _ z => by cases z)) (s37 _ _ e1), b _ _ (notp hp3 e2 (fun _ z => by cases z)) (s37 _ _ e2)⟩
      -- the lines
      refine ⟨_, rfl, _, rfl, _, rfl, p, c, ns, _, 8, rfl, hp7, by omega, by decide, ok_small (by decide), fun d H8 hd0 hd1 hp8 b8 => ?_⟩
      refine ⟨_, _, rfl, rfl, p, c, ns, _, lt, qs, tabs, (1 + d).toNat, by rw [Int.toNat_of_nonneg (by omega)] <;> rfl, hp8, keepLt b8, keepT b8, G, D.ne, by omega, by omega, by omega, fun order ls fl H9 hperm hll hfact nfl efl hp9 b9 => ?_⟩
      have b79 := b8.trans b9
      have nflp := notp hp9 efl (fun _ z => by cases z)
      have hll2 : ls.length ≤ 8 := by omega
      have GO : ∀ t ∈ order, GoodTab t := fun t ht => G t (hperm.mem_iff.mp ht)
      have hok : ∀ x ∈ ls, PyData.strOk x = true ∧ x.length ≤ 1000 := fun x hx => fact_ok GO (hfact x hx)
      have hup : ∀ x ∈ ls, Up tabs (rk (order.map (·.1))) x := fun x hx => fact_up G D.nd hperm (hfact x hx)
      have hform : ∀ x ∈ ls, Form tabs x := fun x hx => fact_form G nd hperm (hfact x hx)
      have lens : ∀ {x : Str}, x.length ≤ 1000 → x.length ≤ 10000 ∧ ∀ y ∈ Txt.split x " ", y.length ≤ 10000 := fun h => ⟨by omega, fun y hy => by have z := part_short hy; omega⟩
      -- the facts
      refine ⟨_, rfl, _, rfl, ?_⟩
      intro f fdx nf nfdx fne
      have sF : Same H9 (upd (upd H9 fdx (.own f)) f (.ins T.C_Facts fdx [])) := Same.new (Same.new (Same.refl _) nfdx) (by rw [upd_ne (Ne.symm fne)]; exact nf)
      have eF : (upd (upd H9 fdx (.own f)) f (.ins T.C_Facts fdx [])) f = some (.ins T.C_Facts fdx []) := upd_same
      generalize upd (upd H9 fdx (.own f)) f (.ins T.C_Facts fdx []) = H10 at sF eF
      have b7A : But p H7 H10 := b79.trans (But.of sF)
      refine ⟨f, fdx, sa, fl, ls, tabs, rfl, eF, hS7.but hp7 b7A, .inl (SqL.of (sF _ _ efl)), by omega, fun x hx => lens (hok x hx).2, tt (b27.trans b7A) hP3, fun L H11 er b11 fa => ⟨rfl, ?_⟩, fun i H15 dx er _ _ => by
        obtain ⟨L, e⟩ := ups_ok hup
        rw [e] at er; cases er⟩
      have s9B : Same H9 H11 := fun b o e => b11 _ _ (fun z => by rw [z, nf] at e; cases e) (sF _ _ e)
      have hpB := hp9.same s9B
      have b7B : But p H7 H11 := b79.trans (But.of s9B)
      have hPlB : PlainAt H11 pl tabs := hPl.but hp7 b7B
      have hSB : SchemaAt T.C_Schema H11 sa tabs := hS7.but hp7 b7B
      have eflB : H11 fl = some (.lst (ls.map V.str)) := s9B _ _ efl
      have b2B := b27.trans b7B
      refine ⟨3, rfl, by decide, by decide, ?_⟩
      refine for_range (lo := 0) (n := 3) (fun j σ H' => ∃ v8 v9 v10 v11 : Option V, σ = [some (.ref a), some (.ref p), some (.int (0 + (i : Int))), some (.ref lt), some (.ref pl), some (.ref sa), some (.ref fl), some (.ref f), v8, v9, v10, v11, v12, v13, v14] ∧ Pen H' p c ns (20000 * i + 2000 + 1100 * j) ∧ But p H11 H' ∧ (j = 0 ∨ ∃ d dat, v9 = some (.ref d) ∧ d ≠ p ∧ DatAt H' d dat ∧ FullDat tabs 10 dat))
        ⟨v8, v9, v10, v11, rfl, hpB.mono (by omega), But.refl _ _, .inl rfl⟩ ?_ ?_
      · rintro j σ H12 hj ⟨v8, v9, v10, v11, rfl, hp12, b12, _⟩
        refine ⟨_, rfl, _, rfl, _, rfl, p, c, ns, _, pl, fl, tabs, rfl, hp12, by omega, hPlB.but hpB b12, D, fun dat d H13 fd ndH dA hp13 b13 => ?_⟩
        have ndp : d ≠ p := fun z => by
          obtain ⟨o, e⟩ := hp12.pre
          rw [z, e] at ndH; cases ndH
        have bB3 := b12.trans b13
        have hPl3 := hPlB.but hpB bB3
        have efl3 : H13 fl = some (.lst (ls.map V.str)) := bB3 _ _ nflp eflB
        obtain ⟨g1, g2⟩ := full_good fd nd
        obtain ⟨g3, g4⟩ := full_small fd (Nat.le_refl _) hf h3
        have dok : DatOk tabs dat := datOk_of g1 fun q hq => (g4 q hq).1
        -- broken by the law
        refine ⟨_, rfl, fl, rfl, ⟨_, SqL.of efl3⟩, fun D0 hD0 => ?_⟩
        refine lc_grow (n := ls.length) hD0 (fun i acc H' => acc = (brokenL tabs dat (ls.take i)).map V.str) (fun i acc H' o hp _ => hp) (fun _ _ => rfl)
          (fun i H' hi s1 => ⟨_, V.str (ls[i]'hi), SqL.of (s1 _ _ efl3), by rw [List.getElem?_map, List.getElem?_eq_getElem hi]; rfl⟩) (fun H' s1 => ⟨_, SqL.of (s1 _ _ efl3), by rw [List.length_map]; omega⟩) (small1000 (by omega)) (fun i acc H' F G' hF hG hi s1 hacc hp v H2 yl => ?_) (fun acc H14 s14 hac hpa => ?_)
        · obtain ⟨eH, ev⟩ := yl
          subst eH
          have ev := ev _ (SqL.of (s1 _ _ efl3))
          rw [List.getElem?_map, List.getElem?_eq_getElem hi] at ev
          cases ev
          have hxm := List.getElem_mem hi
          refine ⟨rfl, ?_⟩
          refine ⟨_, rfl, _, rfl, _, rfl, pl, d, ls[i], tabs, dat, rfl, hPl3.keep s1, dA.same s1, dok, D, hform _ hxm, (hok _ hxm).2, fun H15 s15 => ⟨_, rfl, ?_⟩⟩
          have et : brokenL tabs dat (ls.take (i + 1)) = brokenL tabs dat (ls.take i) ++ if lineKept tabs dat ls[i] = true then [] else [ls[i]] := by
            unfold brokenL
            rw [List.take_add_one, List.getElem?_eq_getElem hi, List.filter_append]
            congr 1
            show List.filter _ [ls[i]] = _
            rw [List.filter_cons]
            cases lineKept tabs dat ls[i] <;> rfl
          cases hk : lineKept tabs dat ls[i] with
          | true =>
            refine iteF (hG _ s15 ?_)
            rw [et, hk, hp, if_pos rfl, List.append_nil]
          | false =>
            refine iteT ⟨_, rfl, hF _ _ s15 ?_⟩
            rw [et, hk, hp, if_neg (by decide), List.map_append]; rfl
        rw [List.take_length] at hpa
        subst hpa
        have hp14 := hp13.same s14
        have bB4 := bB3.trans (But.of s14)
        have hfa4 := fa.but hpB bB4
        have hfa4' := hfa4
        obtain ⟨dx, df, sc, of, kvs, f1, _⟩ := hfa4'
        have b24 := b2B.trans bB4
        refine ⟨_, rfl, f, dx, _, rfl, f1, rfl, _, rfl, f, d, tabs, dat, ls, rfl, hfa4, dA.same s14, g3, g4, tt b24 hP4, tt b24 hP5, by omega, nd, fun H15 n15 st15 s15 => ?_, fun x H2 d2 told s2 e2 => absurd told (told_none g1 g2)⟩
        refine first_or (i := 10) (D0 := D0) rfl (s15 _ _ hac) fun H16 s16 => ?_
        have s46 := s15.trans s16
        refine ⟨scal_text _ _, false, by rw [broken_head]; show V.bl (!decide (_ = _)) = V.bl false; rw [decide_eq_true rfl]; rfl, iteF ?_⟩
        -- each line by itself
        refine ⟨_, rfl, fl, rfl, ⟨_, SqL.of (s46 _ _ (s14 _ _ efl3))⟩, ?_⟩
        refine for_list (xs := ls.map V.str) (fun m σ H' => ∃ v11 : Option V, σ = [some (.ref a), some (.ref p), some (.int (0 + (i : Int))), some (.ref lt), some (.ref pl), some (.ref sa), some (.ref fl), some (.ref f), some (.int (0 + (j : Int))), some (.ref d), some (.ref D0), v11, v12, v13, v14] ∧ Same H14 H')
          ⟨v11, rfl, s46⟩ (fun m σ H' _ ⟨_, _, s⟩ => SqL.of (s _ _ (s14 _ _ efl3))) ?_ ?_
        · rintro m x σ H17 hx ⟨w11, rfl, s17⟩
          have hm : m < ls.length := by
            rcases Nat.lt_or_ge m ls.length with h | h
            · exact h
            · rw [List.getElem?_eq_none (by rw [List.length_map]; omega)] at hx; cases hx
          rw [List.getElem?_map, List.getElem?_eq_getElem hm] at hx
          cases hx
          have hxm := List.getElem_mem hm
          generalize ls[m] = x at hxm
          have b2H := b24.trans (But.of s17)
          have bBH := bB4.trans (But.of s17)
          refine ⟨_, rfl, _, rfl, (by show 1 ≤ sizeLine; decide), fun l1 H18 n18 s18 e18 => ?_⟩
          intro f2 fdx2 nf2 nfdx2 fne2
          have sG : Same H18 (upd (upd H18 fdx2 (.own f2)) f2 (.ins T.C_Facts fdx2 [])) := Same.new (Same.new (Same.refl _) nfdx2) (by rw [upd_ne (Ne.symm fne2)]; exact nf2)
          have eG : (upd (upd H18 fdx2 (.own f2)) f2 (.ins T.C_Facts fdx2 [])) f2 = some (.ins T.C_Facts fdx2 []) := upd_same
          generalize upd (upd H18 fdx2 (.own f2)) f2 (.ins T.C_Facts fdx2 []) = H19 at sG eG
          have s79 := s18.trans sG
          refine ⟨f2, fdx2, sa, l1, [x], tabs, rfl, eG, (hSB.but hpB bBH).same s79, .inl (SqL.of (sG _ _ e18)), by show 1 ≤ 200; decide, fun y hy => by rw [List.mem_singleton.mp hy]; exact lens (hok x hxm).2, tt (b2H.trans (But.of s79)) hP3, fun L2 H20 er2 b20 fa2 => ⟨rfl, ?_⟩, fun i H15 dx er _ _ => by
            obtain ⟨L, e⟩ := ups_ok (ls := [x]) (fun y hy => by rw [List.mem_singleton.mp hy]; exact hup x hxm)
            rw [e] at er; cases er⟩
          have s80 : Same H18 H20 := fun b o e => b20 _ _ (fun z => by rw [z, nf2] at e; cases e) (sG _ _ e)
          have s70 := s18.trans s80
          have fa2' := fa2
          obtain ⟨dx2, df2, sc2, of2, kvs2, f21, _⟩ := fa2'
          refine ⟨f2, dx2, _, rfl, f21, rfl, _, rfl, f2, d, tabs, dat, [x], rfl, fa2, (dA.same s14).same (s17.trans s70), g3, g4, tt (b2H.trans (But.of s70)) hP4, tt (b2H.trans (But.of s70)) hP5, by omega, nd, fun H21 n21 st21 s21 => ?_, fun x H2 d2 told s2 e2 => absurd told (told_none g1 g2)⟩
          have s41 := (s17.trans s70).trans s21
          have hin : inV (.str x) ((brokenL tabs dat ls).map V.str) = decide (x ∈ brokenL tabs dat ls) := by
            by_cases h : x ∈ brokenL tabs dat ls
            · rw [decide_eq_true h]; exact mem_inV.mpr h
            · rw [decide_eq_false h]; exact Bool.eq_false_iff.mpr fun z => h (mem_inV.mp z)
          refine ⟨_, rfl, _, rfl, D0, _, rfl, .inl (SqL.of (s41 _ _ hac)), rfl, all_strs _ _, decide (x ∈ brokenL tabs dat ls), congrArg V.bl hin, ?_⟩
          have hb1 := broken_one (tabs := tabs) (dat := dat) hxm
          by_cases h : x ∈ brokenL tabs dat ls
          · rw [decide_eq_true h]
            rw [if_pos h] at hb1
            rw [hb1]
            refine iteT ⟨_, rfl, rfl, false, by rw [decide_eq_true rfl]; rfl, iteF ⟨_, rfl, s41⟩⟩
          · rw [decide_eq_false h]
            rw [if_neg h] at hb1
            rw [hb1]
            refine iteF ⟨rfl, false, by rw [decide_eq_true rfl]; rfl, iteF ⟨_, rfl, s41⟩⟩
        · rintro σ H17 ⟨w11, rfl, s17⟩
          exact ⟨_, _, _, _, rfl, (hp14.same s17).mono (by omega), bB4.trans (But.of s17), .inr ⟨d, dat, rfl, ndp, (dA.same s14).same s17, fd⟩⟩
      · rintro σ H12 ⟨v8, v9, v10, v11, rfl, hp12, b12, hdj⟩
        obtain ⟨d, dat, rfl, ndp, dA, fd⟩ : ∃ d dat, v9 = some (.ref d) ∧ d ≠ p ∧ DatAt H12 d dat ∧ FullDat tabs 10 dat := hdj.resolve_left (by decide)
        have b7C := b7B.trans b12
        have b2C := b2B.trans b12
        have elC := keepLt b7C
        have hTC := keepT b7C
        have hql := Paired.length hT
        have item : ∀ {H' : Hp} {m : Nat}, Same H12 H' → m < tabs.length → SqL K H' lt (qs.map V.ref) ∧ ∃ q c0, (qs.map V.ref)[m]? = some (V.ref q) ∧ qs[m]? = some q ∧ ∃ t, tabs[m]? = some t ∧ H' q = some (.tup [.str t.1, .ref c0]) ∧ H' c0 = some (.lst (t.2.map V.str)) := fun {H' m} s hm => by
          have hmq : m < qs.length := by omega
          obtain ⟨c0, e1, e2⟩ := paired_get hTC (List.getElem?_eq_getElem hmq) (List.getElem?_eq_getElem hm)
          exact ⟨SqL.of (s _ _ elC), qs[m], c0, by rw [List.getElem?_map, List.getElem?_eq_getElem hmq]; rfl, List.getElem?_eq_getElem hmq, tabs[m], List.getElem?_eq_getElem hm, s _ _ e1, s _ _ e2⟩
        -- tables without a row
        refine ⟨_, rfl, lt, rfl, ⟨_, SqL.of elC⟩, fun DE hDE => ?_⟩
        refine lc_grow (n := tabs.length) hDE (fun m acc H' => ∃ qs' : List Addr, acc = qs'.map V.ref ∧ Paired (EvenP DE (fun _ => []) H') qs' (tabs.take m)) ?_ ?_ ?_ ?_ (small1000 (by omega)) ?_ ?_
        · exact fun m acc H' o ⟨qs', e, h⟩ u => ⟨qs', e, Paired.mapP h fun q t z => z.upd u⟩
        · exact fun H' s => ⟨[], rfl, .nil⟩
        · exact fun m H' hm s => by
            obtain ⟨z1, q, _, z2, _⟩ := item s hm
            exact ⟨_, V.ref q, z1, z2⟩
        · exact fun H' s => ⟨_, SqL.of (s _ _ elC), by rw [List.length_map]; omega⟩
        · rintro m acc H' F G' hF hG hm s hacc ⟨qs', rfl, hq'⟩ v Hv ⟨eH, ev⟩
          subst eH
          obtain ⟨z1, q, c0, z2, z3, t, z4, z5, z6⟩ := item s hm
          have ev := ev _ z1
          rw [z2] at ev
          cases ev
          refine ⟨_, _, rfl, SqT.of z5, rfl, _, _, rfl, _, _, rfl, rfl, rfl, ?_⟩
          refine ⟨_, rfl, (by show 0 ≤ sizeLine; decide), fun l1 I1 n1 t1 e1 => ⟨(by show 2 ≤ sizeLine; decide), fun l2 I2 n2 t2 e2 => hF _ _ (t1.trans t2) ⟨qs' ++ [l2], by rw [List.map_append]; rfl, ?_⟩⟩⟩
          rw [List.take_add_one, z4]
          refine paired_snoc (Paired.mapP hq' fun q t z => z.same (t1.trans t2)) ⟨l1, e2, (fun z => by rw [z, hacc] at n1; cases n1), [], t2 _ _ e1, .nil⟩
        rintro accE H13 s13 hacE ⟨qsE, rfl, hqE⟩
        rw [List.take_length] at hqE
        obtain ⟨kvE, pE1, pE2⟩ := even_dict (K := K) nd hqE
        refine ⟨DE, qsE, kvE, rfl, SqL.of hacE, pE1, fun de hde => ?_⟩
        obtain ⟨s14, dE⟩ := pE2 de hde
        generalize upd H13 de (.dK (mergeK [] kvE)) = H14 at s14 dE
        have fullE : FullDat tabs 10 (evenD tabs fun _ => []) := even_full (fun _ _ => Nat.zero_le _) (fun _ _ r hr => by cases hr)
        obtain ⟨g1, g2⟩ := full_good fullE nd
        obtain ⟨g3, g4⟩ := full_small fullE (Nat.le_refl _) hf h3
        have s24 := s13.trans s14
        have bB4 := b12.trans (But.of s24)
        have b24 := b2C.trans (But.of s24)
        have hfa := fa.but hpB bB4
        have hfa' := hfa
        obtain ⟨dx, df, sc, of, kvs, f1, _⟩ := hfa'
        have efl4 : H14 fl = some (.lst (ls.map V.str)) := bB4 _ _ nflp eflB
        refine ⟨_, rfl, f, dx, _, rfl, f1, rfl, _, rfl, f, de, tabs, _, ls, rfl, hfa, dE, g3, g4, tt b24 hP4, tt b24 hP5, by omega, nd, fun H15 n15 st15 s15 => ?_, fun x H2 d2 told s2 e2 => absurd told (told_none g1 g2)⟩
        rw [broken_empty G nd hperm hfact]
        refine ⟨_, rfl, fl, rfl, ⟨_, SqL.of (s15 _ _ efl4)⟩, fun DF hDF => ?_⟩
        refine lc_grow (n := ls.length) hDF (fun i acc H' => acc = ((ls.take i).filter fun x => decide (cutS x none (some 7) = ("filled " : Str))).map V.str) (fun i acc H' o hp _ => hp) (fun _ _ => rfl)
          (fun i H' hi s1 => ⟨_, V.str (ls[i]'hi), SqL.of (s1 _ _ (s15 _ _ efl4)), by rw [List.getElem?_map, List.getElem?_eq_getElem hi]; rfl⟩) (fun H' s1 => ⟨_, SqL.of (s1 _ _ (s15 _ _ efl4)), by rw [List.length_map]; omega⟩) (small1000 (by omega)) (fun i acc H' F G' hF hG hi s1 hacc hp v H2 yl => ?_) (fun acc H16 s16 hac hpa => ?_)
        · obtain ⟨eH, ev⟩ := yl
          subst eH
          have ev := ev _ (SqL.of (s1 _ _ (s15 _ _ efl4)))
          rw [List.getElem?_map, List.getElem?_eq_getElem hi] at ev
          cases ev
          have hxl := (hok _ (List.getElem_mem hi)).2
          refine ⟨rfl, ?_⟩
          refine ⟨_, rfl, 7, rfl, _, rfl, by rw [sizeLine_eq]; omega, rfl, _, rfl, ?_⟩
          have es : decide (V.str (cutS ls[i] none (some 7)) = V.str "filled ") = decide (cutS ls[i] none (some 7) = ("filled " : Str)) := by
            by_cases h : cutS ls[i] none (some 7) = ("filled " : Str)
            · rw [decide_eq_true h, decide_eq_true (by rw [h])]
            · rw [decide_eq_false h, decide_eq_false (fun z => h (V.str.inj z))]
          rw [es]
          have et : (ls.take (i + 1)).filter (fun x => decide (cutS x none (some 7) = ("filled " : Str))) = (ls.take i).filter (fun x => decide (cutS x none (some 7) = ("filled " : Str))) ++ if decide (cutS ls[i] none (some 7) = ("filled " : Str)) = true then [ls[i]] else [] := by
            rw [List.take_add_one, List.getElem?_eq_getElem hi, List.filter_append]
            congr 1
            show List.filter _ [ls[i]] = _
            rw [List.filter_cons]; rfl
          cases hk : decide (cutS ls[i] none (some 7) = ("filled " : Str)) with
          | true =>
            refine iteT ⟨_, rfl, hF _ _ (Same.refl _) ?_⟩
            rw [et, hk, hp, if_pos rfl, List.map_append]; rfl
          | false =>
            refine iteF (hG _ (Same.refl _) ?_)
            rw [et, hk, hp, if_neg (by decide), List.append_nil]
        rw [List.take_length] at hpa
        subst hpa
        generalize hfl : ls.filter (fun x => decide (cutS x none (some 7) = ("filled " : Str))) = fs at hac
        have hfs : fs.length ≤ 8 := by rw [← hfl]; exact Nat.le_trans (List.length_filter_le _ _) hll2
        have hfo : ∀ x, fs.head? = some x → PyData.strOk x = true := fun x hx => by
          have z : x ∈ ls.filter (fun x => decide (cutS x none (some 7) = ("filled " : Str))) := by rw [hfl]; exact List.mem_of_head? hx
          exact (hok x (List.mem_filter.mp z).1).1
        obtain ⟨dp, dp1, dp2, dp3⟩ := eqv_text fs.head? hfo
        refine ⟨(by show 1 ≤ sizeLine; decide), fun ln H17 n17 s17 e17 => ⟨DF, ln, _, _, rfl, rfl, s17 _ _ hac, e17, small (by rw [List.length_map]; show fs.length + 1 ≤ 1000; omega), fun lc H18 n18 s18 e18 => ⟨lc, _, 0, textV fs.head?, rfl, rfl, SqL.of e18, atI_nat (k := 0) ?_, dp, dp, dp1, dp1, dp2, dp2, false, by rw [dp3]; rfl, iteF ?_⟩⟩⟩
        · cases fs <;> rfl
        have s48 : Same H14 H18 := ((s15.trans s16).trans s17).trans s18
        have s28 : Same H12 H18 := s24.trans s48
        have hfa8 := hfa.same s48
        have f18 := s48 _ _ f1
        -- a row of noughts in each
        refine ⟨_, rfl, f, dx, _, rfl, f18, rfl, ?_⟩
        refine ⟨_, rfl, lt, rfl, ⟨_, SqL.of (s28 _ _ elC)⟩, fun DZ hDZ => ?_⟩
        refine lc_grow (n := tabs.length) hDZ (fun m acc H' => ∃ qs' : List Addr, acc = qs'.map V.ref ∧ Paired (EvenP DZ (fun t => [List.replicate t.2.length 0]) H') qs' (tabs.take m)) ?_ ?_ ?_ ?_ (small1000 (by omega)) ?_ ?_
        · exact fun m acc H' o ⟨qs', e, h⟩ u => ⟨qs', e, Paired.mapP h fun q t z => z.upd u⟩
        · exact fun H' s => ⟨[], rfl, .nil⟩
        · exact fun m H' hm s => by
            obtain ⟨z1, q, _, z2, _⟩ := item (s28.trans s) hm
            exact ⟨_, V.ref q, z1, z2⟩
        · exact fun H' s => ⟨_, SqL.of (s _ _ (s28 _ _ elC)), by rw [List.length_map]; omega⟩
        · rintro m acc H' F G' hF hG hm s hacc ⟨qs', rfl, hq'⟩ v Hv ⟨eH, ev⟩
          subst eH
          obtain ⟨z1, q, c0, z2, z3, t, z4, z5, z6⟩ := item (s28.trans s) hm
          have ev := ev _ z1
          rw [z2] at ev
          cases ev
          have ht := List.mem_of_getElem? z4
          have htl := h3 t ht
          have htp : 0 < t.2.length := List.length_pos_iff.mpr (D.cols t ht).1
          refine ⟨_, _, rfl, SqT.of z5, rfl, _, _, rfl, _, _, rfl, rfl, rfl, ?_⟩
          refine ⟨_, rfl, (by show 1 ≤ sizeLine; decide), fun tq I1 n1 t1 e1 => ?_⟩
          have rep : ∀ (m : Nat) (x : Int), (List.replicate m [V.int x]).flatten = (List.replicate m x).map V.int := fun m x => by simp
          have wl : (((t.2.map V.str).length : Nat) : Int) = ((t.2.length : Nat) : Int) := by rw [List.length_map]
          refine ⟨_, rfl, c0, _, rfl, .inl (SqL.of (t1 _ _ z6)), tq, _, _, rfl, rfl, SqT.of e1, by simp, by omega, by rw [List.length_map]; omega, by simp, fun h1 => ?_, fun h1 np hnp => ?_⟩
          · rw [wl] at h1
            have e1 : I1 tq = some (.tup ((List.replicate t.2.length 0).map V.int)) := by
              rw [show t.2.length = 1 by omega]; exact e1
            refine ⟨(by show 1 ≤ sizeLine; decide), fun l1 I2 n2 t2 e2 => ⟨(by show 2 ≤ sizeLine; decide), fun l2 I3 n3 t3 e3 => hF _ _ ((t1.trans t2).trans t3) ⟨qs' ++ [l2], by rw [List.map_append]; rfl, ?_⟩⟩⟩
            rw [List.take_add_one, z4]
            refine paired_snoc (Paired.mapP hq' fun q t z => z.same ((t1.trans t2).trans t3)) ⟨l1, e3, (fun z => by
              have z2 := t1 _ _ hacc
              rw [← z, n2] at z2; cases z2), [tq], t3 _ _ e2, .cons (t3 _ _ (t2 _ _ e1)) .nil⟩
          · have en : (upd I1 np (.tup (List.replicate (((t.2.map V.str).length : Nat) : Int).toNat [V.int 0]).flatten)) np = some (.tup ((List.replicate t.2.length 0).map V.int)) := by
              rw [upd_same, ← rep, wl, Int.toNat_natCast]
            have sn : Same I1 (upd I1 np (.tup (List.replicate (((t.2.map V.str).length : Nat) : Int).toNat [V.int 0]).flatten)) := Same.new (Same.refl _) hnp
            generalize upd I1 np (.tup (List.replicate (((t.2.map V.str).length : Nat) : Int).toNat [V.int 0]).flatten) = In at en sn
            have t1 := t1.trans sn
            refine ⟨(by show 1 ≤ sizeLine; decide), fun l1 I2 n2 t2 e2 => ⟨(by show 2 ≤ sizeLine; decide), fun l2 I3 n3 t3 e3 => hF _ _ ((t1.trans t2).trans t3) ⟨qs' ++ [l2], by rw [List.map_append]; rfl, ?_⟩⟩⟩
            rw [List.take_add_one, z4]
            refine paired_snoc (Paired.mapP hq' fun q t z => z.same ((t1.trans t2).trans t3)) ⟨l1, e3, (fun z => by
              have z2 := t1 _ _ hacc
              rw [← z, n2] at z2; cases z2), [np], t3 _ _ e2, .cons (t3 _ _ (t2 _ _ en)) .nil⟩
        rintro accZ H19 s19 hacZ ⟨qsZ, rfl, hqZ⟩
        rw [List.take_length] at hqZ
        obtain ⟨kvZ, pZ1, pZ2⟩ := even_dict (K := K) nd hqZ
        refine ⟨DZ, qsZ, kvZ, rfl, SqL.of hacZ, pZ1, fun dz hdz => ?_⟩
        obtain ⟨s20, dZ⟩ := pZ2 dz hdz
        generalize upd H19 dz (.dK (mergeK [] kvZ)) = H20 at s20 dZ
        have fullZ : FullDat tabs 10 (evenD tabs fun t => [List.replicate t.2.length 0]) := even_full (fun _ _ => by show 1 ≤ 10; decide) (fun _ _ r hr => by rw [List.mem_singleton.mp hr, List.length_replicate])
        obtain ⟨g1, g2⟩ := full_good fullZ nd
        obtain ⟨g3, g4⟩ := full_small fullZ (Nat.le_refl _) hf h3
        have s80 := s19.trans s20
        have b2Z := b24.trans (But.of (s48.trans s80))
        refine ⟨f, dz, tabs, _, ls, rfl, hfa8.same s80, dZ, g3, g4, tt b2Z hP4, tt b2Z hP5, by omega, nd, fun H21 n21 st21 s21 => ?_, fun x H2 d2 told s2 e2 => absurd told (told_none g1 g2)⟩
        refine ⟨rfl, false, ?_, iteF ?_⟩
        · rw [broken_zero G nd hperm hfact]
          show V.bl (!decide (V.non = V.non)) = V.bl false
          rw [decide_eq_true rfl]; rfl
        -- the refusals
        have sC1 : Same H12 H21 := (s28.trans s80).trans s21
        have hpZ := hp12.same sC1
        have bBZ := b12.trans (But.of sC1)
        have b2Y := b2C.trans (But.of sC1)
        refine ⟨_, rfl, _, rfl, _, rfl, _, rfl, p, c, ns, _, f, pl, d, tabs, dat, ls, rfl, ndp, hpZ, by omega, fa.but hpB bBZ, hPlB.but hpB bBZ, dA.same sC1, fd, D, tt b2Y hP4, tt b2Y hP5, fun H22 hp22 b22 => ⟨true, rfl, iteF ?_⟩⟩
        exact ⟨_, _, _, _, _, _, _, _, _, _, _, _, _, rfl, hp22.mono (by omega), b2.trans (b2Y.trans b22)⟩
    · rintro σ H2 ⟨v2, v3, v4, v5, v6, v7, v8, v9, v10, v11, v12, v13, v14, rfl, hp2, b2⟩
      exact k H2 (Same.but s1 np b2)
end
end L2.Pf
set_option maxHeartbeats 4000000
namespace L2.Pf
open PySem PySem.Spec PyProof.Rows L2.Ev L2.Gq L2.Enf L2.Sett L2.Itr L2.Dls L2.Own L2.Ent
def mk_TX {K : PySem.W.Frag} {h : Heap} {mg : Str → Option Value} (X : K.In h) (G : h.Ns mainGlobals mg)
    {t_LETTERS : Tok}
    {t_LONGEST_NAME : Tok}
    {A_RESERVED : Addr} {dd_RESERVED : Option Addr} {n_RESERVED : Nat} {sl_RESERVED : Array (Option Value)} {t_RESERVED_0 t_RESERVED_1 t_RESERVED_2 t_RESERVED_3 t_RESERVED_4 t_RESERVED_5 t_RESERVED_6 t_RESERVED_7 t_RESERVED_8 t_RESERVED_9 t_RESERVED_10 t_RESERVED_11 t_RESERVED_12 t_RESERVED_13 t_RESERVED_14 t_RESERVED_15 t_RESERVED_16 t_RESERVED_17 t_RESERVED_18 t_RESERVED_19 t_RESERVED_20 t_RESERVED_21 t_RESERVED_22 t_RESERVED_23 t_RESERVED_24 t_RESERVED_25 t_RESERVED_26 t_RESERVED_27 t_RESERVED_28 t_RESERVED_29 : Tok}
    {A_OF_TABLES : Addr} {dd_OF_TABLES : Option Addr} {n_OF_TABLES : Nat} {sl_OF_TABLES : Array (Option Value)} {t_OF_TABLES_0 t_OF_TABLES_1 : Tok}
    {A_OF_COLUMNS : Addr} {dd_OF_COLUMNS : Option Addr} {n_OF_COLUMNS : Nat} {sl_OF_COLUMNS : Array (Option Value)} {t_OF_COLUMNS_0 t_OF_COLUMNS_1 : Tok}
    {t_MOST_TABLES : Tok}
    {t_MOST_COLUMNS : Tok}
    {C_LookError : Addr} {q_LookError : Str} {N_LookError : Addr} {bs_LookError : List Value} {sn_LookError : List Str} {su_LookError : List Value} {ab_LookError : Bool} {co_LookError : Option Bool} {dd_LookError : Option Addr} {k0_LookError k1_LookError k2_LookError k3_LookError k5_LookError : Option Value}
    {C_BadTables : Addr} {q_BadTables : Str} {N_BadTables : Addr} {bs_BadTables : List Value} {sn_BadTables : List Str} {su_BadTables : List Value} {ab_BadTables : Bool} {co_BadTables : Option Bool} {dd_BadTables : Option Addr} {k0_BadTables k1_BadTables k2_BadTables k3_BadTables k5_BadTables : Option Value}
    {C_BadFact : Addr} {q_BadFact : Str} {N_BadFact : Addr} {bs_BadFact : List Value} {sn_BadFact : List Str} {su_BadFact : List Value} {ab_BadFact : Bool} {co_BadFact : Option Bool} {dd_BadFact : Option Addr} {k0_BadFact k1_BadFact k2_BadFact k3_BadFact k5_BadFact : Option Value}
    {C_BadProgram : Addr} {q_BadProgram : Str} {N_BadProgram : Addr} {bs_BadProgram : List Value} {sn_BadProgram : List Str} {su_BadProgram : List Value} {ab_BadProgram : Bool} {co_BadProgram : Option Bool} {dd_BadProgram : Option Addr} {k0_BadProgram k1_BadProgram k2_BadProgram k3_BadProgram k5_BadProgram : Option Value}
    {C_OtherTables : Addr} {q_OtherTables : Str} {N_OtherTables : Addr} {bs_OtherTables : List Value} {sn_OtherTables : List Str} {su_OtherTables : List Value} {ab_OtherTables : Bool} {co_OtherTables : Option Bool} {dd_OtherTables : Option Addr} {k0_OtherTables k1_OtherTables k2_OtherTables k3_OtherTables k5_OtherTables : Option Value}
    {C_NoName : Addr} {q_NoName : Str} {N_NoName : Addr} {bs_NoName : List Value} {sn_NoName : List Str} {su_NoName : List Value} {ab_NoName : Bool} {co_NoName : Option Bool} {dd_NoName : Option Addr} {k0_NoName k1_NoName k2_NoName k3_NoName k5_NoName : Option Value}
    {C_Facts : Addr}
    {C_Schema : Addr}
    {f_wall : Addr} {od_wall an_wall : Option Addr} {sl_wall : Array (Option Value)} {oc_wall kV_wall dc_wall pm_wall ct_wall : Value} {cd_wall : Value}
    {f_BadTables_init : Addr} {od_BadTables_init an_BadTables_init : Option Addr} {sl_BadTables_init : Array (Option Value)} {oc_BadTables_init kV_BadTables_init dc_BadTables_init pm_BadTables_init ct_BadTables_init : Value} {cd_BadTables_init : Value}
    {f_BadFact_init : Addr} {od_BadFact_init an_BadFact_init : Option Addr} {sl_BadFact_init : Array (Option Value)} {oc_BadFact_init kV_BadFact_init dc_BadFact_init pm_BadFact_init ct_BadFact_init : Value} {cd_BadFact_init : Value}
    {f_BadProgram_init : Addr} {od_BadProgram_init an_BadProgram_init : Option Addr} {sl_BadProgram_init : Array (Option Value)} {oc_BadProgram_init kV_BadProgram_init dc_BadProgram_init pm_BadProgram_init ct_BadProgram_init : Value} {cd_BadProgram_init : Value}
    {f_NoName_init : Addr} {od_NoName_init an_NoName_init : Option Addr} {sl_NoName_init : Array (Option Value)} {oc_NoName_init kV_NoName_init dc_NoName_init pm_NoName_init ct_NoName_init : Value} {cd_NoName_init : Value}
    {f_reached : Addr} {od_reached an_reached : Option Addr} {sl_reached : Array (Option Value)} {oc_reached kV_reached dc_reached pm_reached ct_reached : Value} {cd_reached : Value}
    {f_lines_of : Addr} {od_lines_of an_lines_of : Option Addr} {sl_lines_of : Array (Option Value)} {oc_lines_of kV_lines_of dc_lines_of pm_lines_of ct_lines_of : Value} {cd_lines_of : Value}
    {f_words_of : Addr} {od_words_of an_words_of : Option Addr} {sl_words_of : Array (Option Value)} {oc_words_of kV_words_of dc_words_of pm_words_of ct_words_of : Value} {cd_words_of : Value}
    {f_is_name : Addr} {od_is_name an_is_name : Option Addr} {sl_is_name : Array (Option Value)} {oc_is_name kV_is_name dc_is_name pm_is_name ct_is_name : Value} {c_is_name : Addr}
    {P_is_name : Addr} {tq_is_name : Value} {tr_is_name : Option Addr} {tv_is_name : Array Value} {ts_is_name : Array (Option Value)}
    {f_read_facts : Addr} {od_read_facts an_read_facts : Option Addr} {sl_read_facts : Array (Option Value)} {oc_read_facts kV_read_facts dc_read_facts pm_read_facts ct_read_facts : Value} {cd_read_facts : Value}
    {f_read_fact : Addr} {od_read_fact an_read_fact : Option Addr} {sl_read_fact : Array (Option Value)} {oc_read_fact kV_read_fact dc_read_fact pm_read_fact ct_read_fact : Value} {cd_read_fact : Value}
    {f_read_table : Addr} {od_read_table an_read_table : Option Addr} {sl_read_table : Array (Option Value)} {oc_read_table kV_read_table dc_read_table pm_read_table ct_read_table : Value} {cd_read_table : Value}
    {f_read_column : Addr} {od_read_column an_read_column : Option Addr} {sl_read_column : Array (Option Value)} {oc_read_column kV_read_column dc_read_column pm_read_column ct_read_column : Value} {cd_read_column : Value}
    {f_leads_back : Addr} {od_leads_back an_leads_back : Option Addr} {sl_leads_back : Array (Option Value)} {oc_leads_back kV_leads_back dc_leads_back pm_leads_back ct_leads_back : Value} {c_leads_back : Addr}
    {P_leads_back : Addr} {tq_leads_back : Value} {tr_leads_back : Option Addr} {tv_leads_back : Array Value} {ts_leads_back : Array (Option Value)}
    {f_column_links : Addr} {od_column_links an_column_links : Option Addr} {sl_column_links : Array (Option Value)} {oc_column_links kV_column_links dc_column_links pm_column_links ct_column_links : Value} {cd_column_links : Value}
    {f_table_links : Addr} {od_table_links an_table_links : Option Addr} {sl_table_links : Array (Option Value)} {oc_table_links kV_table_links dc_table_links pm_table_links ct_table_links : Value} {cd_table_links : Value}
    {f_keeps : Addr} {od_keeps an_keeps : Option Addr} {sl_keeps : Array (Option Value)} {oc_keeps kV_keeps dc_keeps pm_keeps ct_keeps : Value} {cd_keeps : Value}
    {f_column_values : Addr} {od_column_values an_column_values : Option Addr} {sl_column_values : Array (Option Value)} {oc_column_values kV_column_values dc_column_values pm_column_values ct_column_values : Value} {cd_column_values : Value}
    {f_are_among : Addr} {od_are_among an_are_among : Option Addr} {sl_are_among : Array (Option Value)} {oc_are_among kV_are_among dc_are_among pm_are_among ct_are_among : Value} {cd_are_among : Value}
    {f_Facts_init : Addr} {od_Facts_init an_Facts_init : Option Addr} {sl_Facts_init : Array (Option Value)} {oc_Facts_init kV_Facts_init dc_Facts_init pm_Facts_init ct_Facts_init : Value} {cd_Facts_init : Value}
    {f_Facts_lines : Addr} {od_Facts_lines an_Facts_lines : Option Addr} {sl_Facts_lines : Array (Option Value)} {oc_Facts_lines kV_Facts_lines dc_Facts_lines pm_Facts_lines ct_Facts_lines : Value} {cd_Facts_lines : Value}
    {pp_Facts_lines : Addr} {rs_Facts_lines : List Value}
    {f_Facts_iter : Addr} {od_Facts_iter an_Facts_iter : Option Addr} {sl_Facts_iter : Array (Option Value)} {oc_Facts_iter kV_Facts_iter dc_Facts_iter pm_Facts_iter ct_Facts_iter : Value} {cd_Facts_iter : Value}
    {f_Facts_contains : Addr} {od_Facts_contains an_Facts_contains : Option Addr} {sl_Facts_contains : Array (Option Value)} {oc_Facts_contains kV_Facts_contains dc_Facts_contains pm_Facts_contains ct_Facts_contains : Value} {cd_Facts_contains : Value}
    {f_Facts_or : Addr} {od_Facts_or an_Facts_or : Option Addr} {sl_Facts_or : Array (Option Value)} {oc_Facts_or kV_Facts_or dc_Facts_or pm_Facts_or ct_Facts_or : Value} {cd_Facts_or : Value}
    {f_Facts_broken : Addr} {od_Facts_broken an_Facts_broken : Option Addr} {sl_Facts_broken : Array (Option Value)} {oc_Facts_broken kV_Facts_broken dc_Facts_broken pm_Facts_broken ct_Facts_broken : Value} {cd_Facts_broken : Value}
    {f_Facts_are_over : Addr} {od_Facts_are_over an_Facts_are_over : Option Addr} {sl_Facts_are_over : Array (Option Value)} {oc_Facts_are_over kV_Facts_are_over dc_Facts_are_over pm_Facts_are_over ct_Facts_are_over : Value} {cd_Facts_are_over : Value}
    {f_Facts_as_read : Addr} {od_Facts_as_read an_Facts_as_read : Option Addr} {sl_Facts_as_read : Array (Option Value)} {oc_Facts_as_read kV_Facts_as_read dc_Facts_as_read pm_Facts_as_read ct_Facts_as_read : Value} {cd_Facts_as_read : Value}
    {f_Facts_implies : Addr} {od_Facts_implies an_Facts_implies : Option Addr} {sl_Facts_implies : Array (Option Value)} {oc_Facts_implies kV_Facts_implies dc_Facts_implies pm_Facts_implies ct_Facts_implies : Value} {cd_Facts_implies : Value}
    {f_Schema_init : Addr} {od_Schema_init an_Schema_init : Option Addr} {sl_Schema_init : Array (Option Value)} {oc_Schema_init kV_Schema_init dc_Schema_init pm_Schema_init ct_Schema_init : Value} {cd_Schema_init : Value}
    {f_Schema_columns : Addr} {od_Schema_columns an_Schema_columns : Option Addr} {sl_Schema_columns : Array (Option Value)} {oc_Schema_columns kV_Schema_columns dc_Schema_columns pm_Schema_columns ct_Schema_columns : Value} {cd_Schema_columns : Value}
    {f_Schema_fits : Addr} {od_Schema_fits an_Schema_fits : Option Addr} {sl_Schema_fits : Array (Option Value)} {oc_Schema_fits kV_Schema_fits dc_Schema_fits pm_Schema_fits ct_Schema_fits : Value} {cd_Schema_fits : Value}
    {f_Schema_check : Addr} {od_Schema_check an_Schema_check : Option Addr} {sl_Schema_check : Array (Option Value)} {oc_Schema_check kV_Schema_check dc_Schema_check pm_Schema_check ct_Schema_check : Value} {cd_Schema_check : Value}
    {f_declared_tables : Addr} {od_declared_tables an_declared_tables : Option Addr} {sl_declared_tables : Array (Option Value)} {oc_declared_tables kV_declared_tables dc_declared_tables pm_declared_tables ct_declared_tables : Value} {cd_declared_tables : Value}
    {f_is_table_line : Addr} {od_is_table_line an_is_table_line : Option Addr} {sl_is_table_line : Array (Option Value)} {oc_is_table_line kV_is_table_line dc_is_table_line pm_is_table_line ct_is_table_line : Value} {c_is_table_line : Addr}
    {P_is_table_line : Addr} {tq_is_table_line : Value} {tr_is_table_line : Option Addr} {tv_is_table_line : Array Value} {ts_is_table_line : Array (Option Value)}
    {f_are_rows : Addr} {od_are_rows an_are_rows : Option Addr} {sl_are_rows : Array (Option Value)} {oc_are_rows kV_are_rows dc_are_rows pm_are_rows ct_are_rows : Value} {c_are_rows : Addr}
    {P_are_rows : Addr} {tq_are_rows : Value} {tr_are_rows : Option Addr} {tv_are_rows : Array Value} {ts_are_rows : Array (Option Value)}
    {f_is_row : Addr} {od_is_row an_is_row : Option Addr} {sl_is_row : Array (Option Value)} {oc_is_row kV_is_row dc_is_row pm_is_row ct_is_row : Value} {c_is_row : Addr}
    {P_is_row : Addr} {tq_is_row : Value} {tr_is_row : Option Addr} {tv_is_row : Array Value} {ts_is_row : Array (Option Value)}
    {f_is_integer : Addr} {od_is_integer an_is_integer : Option Addr} {sl_is_integer : Array (Option Value)} {oc_is_integer kV_is_integer dc_is_integer pm_is_integer ct_is_integer : Value} {cd_is_integer : Value}
    {f_begun_pen : Addr} {od_begun_pen an_begun_pen : Option Addr} {sl_begun_pen : Array (Option Value)} {oc_begun_pen kV_begun_pen dc_begun_pen pm_begun_pen ct_begun_pen : Value} {cd_begun_pen : Value}
    {f_draw : Addr} {od_draw an_draw : Option Addr} {sl_draw : Array (Option Value)} {oc_draw kV_draw dc_draw pm_draw ct_draw : Value} {cd_draw : Value}
    {f_pick : Addr} {od_pick an_pick : Option Addr} {sl_pick : Array (Option Value)} {oc_pick kV_pick dc_pick pm_pick ct_pick : Value} {cd_pick : Value}
    {f_shuffled : Addr} {od_shuffled an_shuffled : Option Addr} {sl_shuffled : Array (Option Value)} {oc_shuffled kV_shuffled dc_shuffled pm_shuffled ct_shuffled : Value} {cd_shuffled : Value}
    {f_new_names : Addr} {od_new_names an_new_names : Option Addr} {sl_new_names : Array (Option Value)} {oc_new_names kV_new_names dc_new_names pm_new_names ct_new_names : Value} {cd_new_names : Value}
    {f_columns : Addr} {od_columns an_columns : Option Addr} {sl_columns : Array (Option Value)} {oc_columns kV_columns dc_columns pm_columns ct_columns : Value} {cd_columns : Value}
    {f_new_integer : Addr} {od_new_integer an_new_integer : Option Addr} {sl_new_integer : Array (Option Value)} {oc_new_integer kV_new_integer dc_new_integer pm_new_integer ct_new_integer : Value} {cd_new_integer : Value}
    {f_new_rows : Addr} {od_new_rows an_new_rows : Option Addr} {sl_new_rows : Array (Option Value)} {oc_new_rows kV_new_rows dc_new_rows pm_new_rows ct_new_rows : Value} {cd_new_rows : Value}
    {f_lawkeeps : Addr} {od_lawkeeps an_lawkeeps : Option Addr} {sl_lawkeeps : Array (Option Value)} {oc_lawkeeps kV_lawkeeps dc_lawkeeps pm_lawkeeps ct_lawkeeps : Value} {cd_lawkeeps : Value}
    {f_drawn_tables : Addr} {od_drawn_tables an_drawn_tables : Option Addr} {sl_drawn_tables : Array (Option Value)} {oc_drawn_tables kV_drawn_tables dc_drawn_tables pm_drawn_tables ct_drawn_tables : Value} {cd_drawn_tables : Value}
    {f_schema_text : Addr} {od_schema_text an_schema_text : Option Addr} {sl_schema_text : Array (Option Value)} {oc_schema_text kV_schema_text dc_schema_text pm_schema_text ct_schema_text : Value} {cd_schema_text : Value}
    {f_spot : Addr} {od_spot an_spot : Option Addr} {sl_spot : Array (Option Value)} {oc_spot kV_spot dc_spot pm_spot ct_spot : Value} {cd_spot : Value}
    {f_new_fact : Addr} {od_new_fact an_new_fact : Option Addr} {sl_new_fact : Array (Option Value)} {oc_new_fact kV_new_fact dc_new_fact pm_new_fact ct_new_fact : Value} {cd_new_fact : Value}
    {f_new_facts : Addr} {od_new_facts an_new_facts : Option Addr} {sl_new_facts : Array (Option Value)} {oc_new_facts kV_new_facts dc_new_facts pm_new_facts ct_new_facts : Value} {cd_new_facts : Value}
    {f_told_table : Addr} {od_told_table an_told_table : Option Addr} {sl_told_table : Array (Option Value)} {oc_told_table kV_told_table dc_told_table pm_told_table ct_told_table : Value} {cd_told_table : Value}
    {f_nearly_kept : Addr} {od_nearly_kept an_nearly_kept : Option Addr} {sl_nearly_kept : Array (Option Value)} {oc_nearly_kept kV_nearly_kept dc_nearly_kept pm_nearly_kept ct_nearly_kept : Value} {cd_nearly_kept : Value}
    {f_refusals_right : Addr} {od_refusals_right an_refusals_right : Option Addr} {sl_refusals_right : Array (Option Value)} {oc_refusals_right kV_refusals_right dc_refusals_right pm_refusals_right ct_refusals_right : Value} {cd_refusals_right : Value}
    {f_law : Addr} {od_law an_law : Option Addr} {sl_law : Array (Option Value)} {oc_law kV_law dc_law pm_law ct_law : Value} {cd_law : Value}
    (z_all : PySem.W.nsIn K mainGlobals "all" = some none)
    (z_len : PySem.W.nsIn K mainGlobals "len" = some none)
    (z_enumerate : PySem.W.nsIn K mainGlobals "enumerate" = some none)
    (z_any : PySem.W.nsIn K mainGlobals "any" = some none)
    (z_sorted : PySem.W.nsIn K mainGlobals "sorted" = some none)
    (z_set : PySem.W.nsIn K mainGlobals "set" = some none)
    (z_property : PySem.W.nsIn K mainGlobals "property" = some none)
    (z_list : PySem.W.nsIn K mainGlobals "list" = some none)
    (z_iter : PySem.W.nsIn K mainGlobals "iter" = some none)
    (z_tuple : PySem.W.nsIn K mainGlobals "tuple" = some none)
    (z_isinstance : PySem.W.nsIn K mainGlobals "isinstance" = some none)
    (z_int : PySem.W.nsIn K mainGlobals "int" = some none)
    (z_bool : PySem.W.nsIn K mainGlobals "bool" = some none)
    (z_abs : PySem.W.nsIn K mainGlobals "abs" = some none)
    (z_range : PySem.W.nsIn K mainGlobals "range" = some none)
    (z_dict : PySem.W.nsIn K mainGlobals "dict" = some none)
    (c_LETTERS : PySem.W.nsIn K mainGlobals "LETTERS" = some (some (.str "abcdefghijklmnopqrstuvwxyz" t_LETTERS)))
    (c_LONGEST_NAME : PySem.W.nsIn K mainGlobals "LONGEST_NAME" = some (some (.int 12 t_LONGEST_NAME)))
    (c_RESERVED : PySem.W.nsIn K mainGlobals "RESERVED" = some (some (.ref A_RESERVED)))
    (v_RESERVED : K.lookup A_RESERVED = some ⟨.type "tuple", dd_RESERVED, .seq ([.str "table" t_RESERVED_0, .str "index" t_RESERVED_1, .str "of" t_RESERVED_2, .str "in" t_RESERVED_3, .str "from" t_RESERVED_4, .str "at" t_RESERVED_5, .str "by" t_RESERVED_6, .str "keep" t_RESERVED_7, .str "first" t_RESERVED_8, .str "last" t_RESERVED_9, .str "all" t_RESERVED_10, .str "where" t_RESERVED_11, .str "until" t_RESERVED_12, .str "find" t_RESERVED_13, .str "get" t_RESERVED_14, .str "need" t_RESERVED_15, .str "each" t_RESERVED_16, .str "if" t_RESERVED_17, .str "else" t_RESERVED_18, .str "end" t_RESERVED_19, .str "put" t_RESERVED_20, .str "next" t_RESERVED_21, .str "and" t_RESERVED_22, .str "not" t_RESERVED_23, .str "is" t_RESERVED_24, .str "some" t_RESERVED_25, .str "before" t_RESERVED_26, .str "has" t_RESERVED_27, .str "missing" t_RESERVED_28, .str "none" t_RESERVED_29] : List Value).toArray n_RESERVED, sl_RESERVED⟩)
    (c_OF_TABLES : PySem.W.nsIn K mainGlobals "OF_TABLES" = some (some (.ref A_OF_TABLES)))
    (v_OF_TABLES : K.lookup A_OF_TABLES = some ⟨.type "tuple", dd_OF_TABLES, .seq ([.str "single" t_OF_TABLES_0, .str "filled" t_OF_TABLES_1] : List Value).toArray n_OF_TABLES, sl_OF_TABLES⟩)
    (c_OF_COLUMNS : PySem.W.nsIn K mainGlobals "OF_COLUMNS" = some (some (.ref A_OF_COLUMNS)))
    (v_OF_COLUMNS : K.lookup A_OF_COLUMNS = some ⟨.type "tuple", dd_OF_COLUMNS, .seq ([.str "unique" t_OF_COLUMNS_0, .str "sorted" t_OF_COLUMNS_1] : List Value).toArray n_OF_COLUMNS, sl_OF_COLUMNS⟩)
    (c_MOST_TABLES : PySem.W.nsIn K mainGlobals "MOST_TABLES" = some (some (.int 4 t_MOST_TABLES)))
    (c_MOST_COLUMNS : PySem.W.nsIn K mainGlobals "MOST_COLUMNS" = some (some (.int 3 t_MOST_COLUMNS)))
    (gn : PySem.W.specialIn K (.builtin "object.__class__") "__get__" = some (some (.builtin "getset_descriptor.__get__")))
    (gt : PySem.W.takesIn K (.builtin "object.__class__") = some true)
    (xa_LookError : PySem.W.nsIn K mainGlobals "LookError" = some (some (.ref C_LookError)))
    (xl_LookError : K.lookup C_LookError = some (excClassObj "LookError" q_LookError C_LookError N_LookError bs_LookError [.type "ValueError", .type "Exception", .type "BaseException", .type "object"] true sn_LookError su_LookError ab_LookError co_LookError dd_LookError k0_LookError k1_LookError k2_LookError k3_LookError k5_LookError "ValueError.__new__"))
    (xs_LookError : PySem.W.findIn K (.ref C_LookError) "__setattr__" = some (some (.builtin "object.__setattr__")))
    (xg_LookError : PySem.W.findIn K (.ref C_LookError) "__getattribute__" = some (some (.builtin "BaseException.__getattribute__")))
    (xt_LookError : PySem.W.findIn K (.ref C_LookError) "__getattr__" = some none)
    (xc_LookError : PySem.W.findIn K (.ref C_LookError) "__class__" = some (some (.builtin "object.__class__")))
    (xk_LookError : PySem.W.keepIn K (.ref C_LookError) = true)
    (xe_LookError : PySem.W.excIn K C_LookError [.type "ValueError", .type "Exception", .type "BaseException", .type "object"] "ValueError.__new__" = true)
    (xa_BadTables : PySem.W.nsIn K mainGlobals "BadTables" = some (some (.ref C_BadTables)))
    (xl_BadTables : K.lookup C_BadTables = some (excClassObj "BadTables" q_BadTables C_BadTables N_BadTables bs_BadTables [.ref C_LookError, .type "ValueError", .type "Exception", .type "BaseException", .type "object"] true sn_BadTables su_BadTables ab_BadTables co_BadTables dd_BadTables k0_BadTables k1_BadTables k2_BadTables k3_BadTables k5_BadTables "ValueError.__new__"))
    (xs_BadTables : PySem.W.findIn K (.ref C_BadTables) "__setattr__" = some (some (.builtin "object.__setattr__")))
    (xg_BadTables : PySem.W.findIn K (.ref C_BadTables) "__getattribute__" = some (some (.builtin "BaseException.__getattribute__")))
    (xt_BadTables : PySem.W.findIn K (.ref C_BadTables) "__getattr__" = some none)
    (xc_BadTables : PySem.W.findIn K (.ref C_BadTables) "__class__" = some (some (.builtin "object.__class__")))
    (xk_BadTables : PySem.W.keepIn K (.ref C_BadTables) = true)
    (xa_BadFact : PySem.W.nsIn K mainGlobals "BadFact" = some (some (.ref C_BadFact)))
    (xl_BadFact : K.lookup C_BadFact = some (excClassObj "BadFact" q_BadFact C_BadFact N_BadFact bs_BadFact [.ref C_LookError, .type "ValueError", .type "Exception", .type "BaseException", .type "object"] true sn_BadFact su_BadFact ab_BadFact co_BadFact dd_BadFact k0_BadFact k1_BadFact k2_BadFact k3_BadFact k5_BadFact "ValueError.__new__"))
    (xs_BadFact : PySem.W.findIn K (.ref C_BadFact) "__setattr__" = some (some (.builtin "object.__setattr__")))
    (xg_BadFact : PySem.W.findIn K (.ref C_BadFact) "__getattribute__" = some (some (.builtin "BaseException.__getattribute__")))
    (xt_BadFact : PySem.W.findIn K (.ref C_BadFact) "__getattr__" = some none)
    (xc_BadFact : PySem.W.findIn K (.ref C_BadFact) "__class__" = some (some (.builtin "object.__class__")))
    (xk_BadFact : PySem.W.keepIn K (.ref C_BadFact) = true)
    (xa_BadProgram : PySem.W.nsIn K mainGlobals "BadProgram" = some (some (.ref C_BadProgram)))
    (xl_BadProgram : K.lookup C_BadProgram = some (excClassObj "BadProgram" q_BadProgram C_BadProgram N_BadProgram bs_BadProgram [.ref C_LookError, .type "ValueError", .type "Exception", .type "BaseException", .type "object"] true sn_BadProgram su_BadProgram ab_BadProgram co_BadProgram dd_BadProgram k0_BadProgram k1_BadProgram k2_BadProgram k3_BadProgram k5_BadProgram "ValueError.__new__"))
    (xs_BadProgram : PySem.W.findIn K (.ref C_BadProgram) "__setattr__" = some (some (.builtin "object.__setattr__")))
    (xg_BadProgram : PySem.W.findIn K (.ref C_BadProgram) "__getattribute__" = some (some (.builtin "BaseException.__getattribute__")))
    (xt_BadProgram : PySem.W.findIn K (.ref C_BadProgram) "__getattr__" = some none)
    (xc_BadProgram : PySem.W.findIn K (.ref C_BadProgram) "__class__" = some (some (.builtin "object.__class__")))
    (xk_BadProgram : PySem.W.keepIn K (.ref C_BadProgram) = true)
    (xa_OtherTables : PySem.W.nsIn K mainGlobals "OtherTables" = some (some (.ref C_OtherTables)))
    (xl_OtherTables : K.lookup C_OtherTables = some (excClassObj "OtherTables" q_OtherTables C_OtherTables N_OtherTables bs_OtherTables [.ref C_LookError, .type "ValueError", .type "Exception", .type "BaseException", .type "object"] true sn_OtherTables su_OtherTables ab_OtherTables co_OtherTables dd_OtherTables k0_OtherTables k1_OtherTables k2_OtherTables k3_OtherTables k5_OtherTables "ValueError.__new__"))
    (xs_OtherTables : PySem.W.findIn K (.ref C_OtherTables) "__setattr__" = some (some (.builtin "object.__setattr__")))
    (xg_OtherTables : PySem.W.findIn K (.ref C_OtherTables) "__getattribute__" = some (some (.builtin "BaseException.__getattribute__")))
    (xt_OtherTables : PySem.W.findIn K (.ref C_OtherTables) "__getattr__" = some none)
    (xc_OtherTables : PySem.W.findIn K (.ref C_OtherTables) "__class__" = some (some (.builtin "object.__class__")))
    (xk_OtherTables : PySem.W.keepIn K (.ref C_OtherTables) = true)
    (xe_OtherTables : PySem.W.excIn K C_OtherTables [.type "ValueError", .type "Exception", .type "BaseException", .type "object"] "ValueError.__new__" = true)
    (xa_NoName : PySem.W.nsIn K mainGlobals "NoName" = some (some (.ref C_NoName)))
    (xl_NoName : K.lookup C_NoName = some (excClassObj "NoName" q_NoName C_NoName N_NoName bs_NoName [.ref C_LookError, .type "ValueError", .type "Exception", .type "BaseException", .type "object"] true sn_NoName su_NoName ab_NoName co_NoName dd_NoName k0_NoName k1_NoName k2_NoName k3_NoName k5_NoName "ValueError.__new__"))
    (xs_NoName : PySem.W.findIn K (.ref C_NoName) "__setattr__" = some (some (.builtin "object.__setattr__")))
    (xg_NoName : PySem.W.findIn K (.ref C_NoName) "__getattribute__" = some (some (.builtin "BaseException.__getattribute__")))
    (xt_NoName : PySem.W.findIn K (.ref C_NoName) "__getattr__" = some none)
    (xc_NoName : PySem.W.findIn K (.ref C_NoName) "__class__" = some (some (.builtin "object.__class__")))
    (xk_NoName : PySem.W.keepIn K (.ref C_NoName) = true)
    (ca_Facts : PySem.W.nsIn K mainGlobals "Facts" = some (some (.ref C_Facts)))
    (pg_Facts : PySem.W.plainGet K C_Facts Str.empty = true)
    (hd_Facts : PySem.W.hasDictIn K C_Facts = true)
    (po_Facts : PySem.W.plainOver K C_Facts = true)
    (sa_Facts : PySem.W.findIn K (.ref C_Facts) "__setattr__" = some (some (.builtin "object.__setattr__")))
    (ma_Facts : PySem.W.makesIn K C_Facts = true)
    (kc_Facts : PySem.W.keepIn K (.ref C_Facts) = true)
    (nf_Facts__schema : PySem.W.findIn K (.ref C_Facts) "_schema" = some none)
    (nf_Facts__facts : PySem.W.findIn K (.ref C_Facts) "_facts" = some none)
    (ca_Schema : PySem.W.nsIn K mainGlobals "Schema" = some (some (.ref C_Schema)))
    (pg_Schema : PySem.W.plainGet K C_Schema Str.empty = true)
    (hd_Schema : PySem.W.hasDictIn K C_Schema = true)
    (po_Schema : PySem.W.plainOver K C_Schema = true)
    (sa_Schema : PySem.W.findIn K (.ref C_Schema) "__setattr__" = some (some (.builtin "object.__setattr__")))
    (ma_Schema : PySem.W.makesIn K C_Schema = true)
    (kc_Schema : PySem.W.keepIn K (.ref C_Schema) = true)
    (nf_Schema__columns : PySem.W.findIn K (.ref C_Schema) "_columns" = some none)
    (nf_Schema_tables : PySem.W.findIn K (.ref C_Schema) "tables" = some none)
    (fa_wall : PySem.W.nsIn K mainGlobals "_wall" = some (some (.ref f_wall)))
    (fl_wall : K.lookup f_wall = some ⟨oc_wall, od_wall, .func (PySem.W.fnOf "_wall" "_wall" (defArgs s_wall) (defBody s_wall) (defScope s_wall) .none kV_wall dc_wall pm_wall an_wall cd_wall ct_wall), sl_wall⟩)
    (fc_wall : PySem.W.codeIn K cd_wall "_wall" = true)
    (fk_wall : PySem.W.keepIn K (.ref f_wall) = true)
    (fa_BadTables_init : PySem.W.findIn K (.ref C_BadTables) "__init__" = some (some (.ref f_BadTables_init)))
    (fl_BadTables_init : K.lookup f_BadTables_init = some ⟨oc_BadTables_init, od_BadTables_init, .func (PySem.W.fnOf "__init__" "BadTables.__init__" (defArgs s_BadTables_init) (defBody s_BadTables_init) (defScope s_BadTables_init) .none kV_BadTables_init dc_BadTables_init pm_BadTables_init an_BadTables_init cd_BadTables_init ct_BadTables_init), sl_BadTables_init⟩)
    (fc_BadTables_init : PySem.W.codeIn K cd_BadTables_init "BadTables.__init__" = true)
    (fk_BadTables_init : PySem.W.keepIn K (.ref f_BadTables_init) = true)
    (ft_BadTables_init : PySem.W.typeIn K (.ref f_BadTables_init) = some (.type "function"))
    (fn_BadTables_init_table : PySem.W.findIn K (.ref C_BadTables) "table" = some none)
    (fa_BadFact_init : PySem.W.findIn K (.ref C_BadFact) "__init__" = some (some (.ref f_BadFact_init)))
    (fl_BadFact_init : K.lookup f_BadFact_init = some ⟨oc_BadFact_init, od_BadFact_init, .func (PySem.W.fnOf "__init__" "BadFact.__init__" (defArgs s_BadFact_init) (defBody s_BadFact_init) (defScope s_BadFact_init) .none kV_BadFact_init dc_BadFact_init pm_BadFact_init an_BadFact_init cd_BadFact_init ct_BadFact_init), sl_BadFact_init⟩)
    (fc_BadFact_init : PySem.W.codeIn K cd_BadFact_init "BadFact.__init__" = true)
    (fk_BadFact_init : PySem.W.keepIn K (.ref f_BadFact_init) = true)
    (ft_BadFact_init : PySem.W.typeIn K (.ref f_BadFact_init) = some (.type "function"))
    (fn_BadFact_init_index : PySem.W.findIn K (.ref C_BadFact) "index" = some none)
    (fa_BadProgram_init : PySem.W.findIn K (.ref C_BadProgram) "__init__" = some (some (.ref f_BadProgram_init)))
    (fl_BadProgram_init : K.lookup f_BadProgram_init = some ⟨oc_BadProgram_init, od_BadProgram_init, .func (PySem.W.fnOf "__init__" "BadProgram.__init__" (defArgs s_BadProgram_init) (defBody s_BadProgram_init) (defScope s_BadProgram_init) .none kV_BadProgram_init dc_BadProgram_init pm_BadProgram_init an_BadProgram_init cd_BadProgram_init ct_BadProgram_init), sl_BadProgram_init⟩)
    (fc_BadProgram_init : PySem.W.codeIn K cd_BadProgram_init "BadProgram.__init__" = true)
    (fk_BadProgram_init : PySem.W.keepIn K (.ref f_BadProgram_init) = true)
    (ft_BadProgram_init : PySem.W.typeIn K (.ref f_BadProgram_init) = some (.type "function"))
    (fn_BadProgram_init_line : PySem.W.findIn K (.ref C_BadProgram) "line" = some none)
    (fa_NoName_init : PySem.W.findIn K (.ref C_NoName) "__init__" = some (some (.ref f_NoName_init)))
    (fl_NoName_init : K.lookup f_NoName_init = some ⟨oc_NoName_init, od_NoName_init, .func (PySem.W.fnOf "__init__" "NoName.__init__" (defArgs s_NoName_init) (defBody s_NoName_init) (defScope s_NoName_init) .none kV_NoName_init dc_NoName_init pm_NoName_init an_NoName_init cd_NoName_init ct_NoName_init), sl_NoName_init⟩)
    (fc_NoName_init : PySem.W.codeIn K cd_NoName_init "NoName.__init__" = true)
    (fk_NoName_init : PySem.W.keepIn K (.ref f_NoName_init) = true)
    (ft_NoName_init : PySem.W.typeIn K (.ref f_NoName_init) = some (.type "function"))
    (fn_NoName_init_name : PySem.W.findIn K (.ref C_NoName) "name" = some none)
    (fa_reached : PySem.W.nsIn K mainGlobals "reached" = some (some (.ref f_reached)))
    (fl_reached : K.lookup f_reached = some ⟨oc_reached, od_reached, .func (PySem.W.fnOf "reached" "reached" (defArgs s_reached) (defBody s_reached) (defScope s_reached) .none kV_reached dc_reached pm_reached an_reached cd_reached ct_reached), sl_reached⟩)
    (fc_reached : PySem.W.codeIn K cd_reached "reached" = true)
    (fk_reached : PySem.W.keepIn K (.ref f_reached) = true)
    (fa_lines_of : PySem.W.nsIn K mainGlobals "lines_of" = some (some (.ref f_lines_of)))
    (fl_lines_of : K.lookup f_lines_of = some ⟨oc_lines_of, od_lines_of, .func (PySem.W.fnOf "lines_of" "lines_of" (defArgs s_lines_of) (defBody s_lines_of) (defScope s_lines_of) .none kV_lines_of dc_lines_of pm_lines_of an_lines_of cd_lines_of ct_lines_of), sl_lines_of⟩)
    (fc_lines_of : PySem.W.codeIn K cd_lines_of "lines_of" = true)
    (fk_lines_of : PySem.W.keepIn K (.ref f_lines_of) = true)
    (fa_words_of : PySem.W.nsIn K mainGlobals "words_of" = some (some (.ref f_words_of)))
    (fl_words_of : K.lookup f_words_of = some ⟨oc_words_of, od_words_of, .func (PySem.W.fnOf "words_of" "words_of" (defArgs s_words_of) (defBody s_words_of) (defScope s_words_of) .none kV_words_of dc_words_of pm_words_of an_words_of cd_words_of ct_words_of), sl_words_of⟩)
    (fc_words_of : PySem.W.codeIn K cd_words_of "words_of" = true)
    (fk_words_of : PySem.W.keepIn K (.ref f_words_of) = true)
    (fa_is_name : PySem.W.nsIn K mainGlobals "is_name" = some (some (.ref f_is_name)))
    (fl_is_name : K.lookup f_is_name = some ⟨oc_is_name, od_is_name, .func (PySem.W.fnOf "is_name" "is_name" (defArgs s_is_name) (defBody s_is_name) (defScope s_is_name) .none kV_is_name dc_is_name pm_is_name an_is_name (.ref c_is_name) ct_is_name), sl_is_name⟩)
    (fc_is_name : PySem.W.codeIn K (.ref c_is_name) "is_name" = true)
    (fk_is_name : PySem.W.keepIn K (.ref f_is_name) = true)
    (tk_is_name : K.lookup c_is_name = some ⟨tq_is_name, tr_is_name, .fields tv_is_name, ts_is_name⟩)
    (tp_is_name : tv_is_name[11]? = some (.ref P_is_name))
    (tn_is_name : K.lookup P_is_name = none)
    (fa_read_facts : PySem.W.nsIn K mainGlobals "read_facts" = some (some (.ref f_read_facts)))
    (fl_read_facts : K.lookup f_read_facts = some ⟨oc_read_facts, od_read_facts, .func (PySem.W.fnOf "read_facts" "read_facts" (defArgs s_read_facts) (defBody s_read_facts) (defScope s_read_facts) .none kV_read_facts dc_read_facts pm_read_facts an_read_facts cd_read_facts ct_read_facts), sl_read_facts⟩)
    (fc_read_facts : PySem.W.codeIn K cd_read_facts "read_facts" = true)
    (fk_read_facts : PySem.W.keepIn K (.ref f_read_facts) = true)
    (fa_read_fact : PySem.W.nsIn K mainGlobals "read_fact" = some (some (.ref f_read_fact)))
    (fl_read_fact : K.lookup f_read_fact = some ⟨oc_read_fact, od_read_fact, .func (PySem.W.fnOf "read_fact" "read_fact" (defArgs s_read_fact) (defBody s_read_fact) (defScope s_read_fact) .none kV_read_fact dc_read_fact pm_read_fact an_read_fact cd_read_fact ct_read_fact), sl_read_fact⟩)
    (fc_read_fact : PySem.W.codeIn K cd_read_fact "read_fact" = true)
    (fk_read_fact : PySem.W.keepIn K (.ref f_read_fact) = true)
    (fa_read_table : PySem.W.nsIn K mainGlobals "read_table" = some (some (.ref f_read_table)))
    (fl_read_table : K.lookup f_read_table = some ⟨oc_read_table, od_read_table, .func (PySem.W.fnOf "read_table" "read_table" (defArgs s_read_table) (defBody s_read_table) (defScope s_read_table) .none kV_read_table dc_read_table pm_read_table an_read_table cd_read_table ct_read_table), sl_read_table⟩)
    (fc_read_table : PySem.W.codeIn K cd_read_table "read_table" = true)
    (fk_read_table : PySem.W.keepIn K (.ref f_read_table) = true)
    (fa_read_column : PySem.W.nsIn K mainGlobals "read_column" = some (some (.ref f_read_column)))
    (fl_read_column : K.lookup f_read_column = some ⟨oc_read_column, od_read_column, .func (PySem.W.fnOf "read_column" "read_column" (defArgs s_read_column) (defBody s_read_column) (defScope s_read_column) .none kV_read_column dc_read_column pm_read_column an_read_column cd_read_column ct_read_column), sl_read_column⟩)
    (fc_read_column : PySem.W.codeIn K cd_read_column "read_column" = true)
    (fk_read_column : PySem.W.keepIn K (.ref f_read_column) = true)
    (fa_leads_back : PySem.W.nsIn K mainGlobals "leads_back" = some (some (.ref f_leads_back)))
    (fl_leads_back : K.lookup f_leads_back = some ⟨oc_leads_back, od_leads_back, .func (PySem.W.fnOf "leads_back" "leads_back" (defArgs s_leads_back) (defBody s_leads_back) (defScope s_leads_back) .none kV_leads_back dc_leads_back pm_leads_back an_leads_back (.ref c_leads_back) ct_leads_back), sl_leads_back⟩)
    (fc_leads_back : PySem.W.codeIn K (.ref c_leads_back) "leads_back" = true)
    (fk_leads_back : PySem.W.keepIn K (.ref f_leads_back) = true)
    (tk_leads_back : K.lookup c_leads_back = some ⟨tq_leads_back, tr_leads_back, .fields tv_leads_back, ts_leads_back⟩)
    (tp_leads_back : tv_leads_back[11]? = some (.ref P_leads_back))
    (tn_leads_back : K.lookup P_leads_back = none)
    (fa_column_links : PySem.W.nsIn K mainGlobals "column_links" = some (some (.ref f_column_links)))
    (fl_column_links : K.lookup f_column_links = some ⟨oc_column_links, od_column_links, .func (PySem.W.fnOf "column_links" "column_links" (defArgs s_column_links) (defBody s_column_links) (defScope s_column_links) .none kV_column_links dc_column_links pm_column_links an_column_links cd_column_links ct_column_links), sl_column_links⟩)
    (fc_column_links : PySem.W.codeIn K cd_column_links "column_links" = true)
    (fk_column_links : PySem.W.keepIn K (.ref f_column_links) = true)
    (fa_table_links : PySem.W.nsIn K mainGlobals "table_links" = some (some (.ref f_table_links)))
    (fl_table_links : K.lookup f_table_links = some ⟨oc_table_links, od_table_links, .func (PySem.W.fnOf "table_links" "table_links" (defArgs s_table_links) (defBody s_table_links) (defScope s_table_links) .none kV_table_links dc_table_links pm_table_links an_table_links cd_table_links ct_table_links), sl_table_links⟩)
    (fc_table_links : PySem.W.codeIn K cd_table_links "table_links" = true)
    (fk_table_links : PySem.W.keepIn K (.ref f_table_links) = true)
    (fa_keeps : PySem.W.nsIn K mainGlobals "keeps" = some (some (.ref f_keeps)))
    (fl_keeps : K.lookup f_keeps = some ⟨oc_keeps, od_keeps, .func (PySem.W.fnOf "keeps" "keeps" (defArgs s_keeps) (defBody s_keeps) (defScope s_keeps) .none kV_keeps dc_keeps pm_keeps an_keeps cd_keeps ct_keeps), sl_keeps⟩)
    (fc_keeps : PySem.W.codeIn K cd_keeps "keeps" = true)
    (fk_keeps : PySem.W.keepIn K (.ref f_keeps) = true)
    (fa_column_values : PySem.W.nsIn K mainGlobals "column_values" = some (some (.ref f_column_values)))
    (fl_column_values : K.lookup f_column_values = some ⟨oc_column_values, od_column_values, .func (PySem.W.fnOf "column_values" "column_values" (defArgs s_column_values) (defBody s_column_values) (defScope s_column_values) .none kV_column_values dc_column_values pm_column_values an_column_values cd_column_values ct_column_values), sl_column_values⟩)
    (fc_column_values : PySem.W.codeIn K cd_column_values "column_values" = true)
    (fk_column_values : PySem.W.keepIn K (.ref f_column_values) = true)
    (fa_are_among : PySem.W.nsIn K mainGlobals "are_among" = some (some (.ref f_are_among)))
    (fl_are_among : K.lookup f_are_among = some ⟨oc_are_among, od_are_among, .func (PySem.W.fnOf "are_among" "are_among" (defArgs s_are_among) (defBody s_are_among) (defScope s_are_among) .none kV_are_among dc_are_among pm_are_among an_are_among cd_are_among ct_are_among), sl_are_among⟩)
    (fc_are_among : PySem.W.codeIn K cd_are_among "are_among" = true)
    (fk_are_among : PySem.W.keepIn K (.ref f_are_among) = true)
    (fa_Facts_init : PySem.W.findIn K (.ref C_Facts) "__init__" = some (some (.ref f_Facts_init)))
    (fl_Facts_init : K.lookup f_Facts_init = some ⟨oc_Facts_init, od_Facts_init, .func (PySem.W.fnOf "__init__" "Facts.__init__" (defArgs s_Facts_init) (defBody s_Facts_init) (defScope s_Facts_init) .none kV_Facts_init dc_Facts_init pm_Facts_init an_Facts_init cd_Facts_init ct_Facts_init), sl_Facts_init⟩)
    (fc_Facts_init : PySem.W.codeIn K cd_Facts_init "Facts.__init__" = true)
    (fk_Facts_init : PySem.W.keepIn K (.ref f_Facts_init) = true)
    (fi_Facts_init : PySem.W.isFn K (.ref f_Facts_init) = true)
    (pa_Facts_lines : PySem.W.findIn K (.ref C_Facts) "lines" = some (some (.ref pp_Facts_lines)))
    (pq_Facts_lines : PySem.W.specialIn K (.ref pp_Facts_lines) "__get__" = some (some (.builtin "property.__get__")))
    (pt_Facts_lines : PySem.W.takesIn K (.ref pp_Facts_lines) = some true)
    (pv_Facts_lines : PySem.W.recIn K pp_Facts_lines "property" = some (.ref f_Facts_lines :: rs_Facts_lines))
    (fl_Facts_lines : K.lookup f_Facts_lines = some ⟨oc_Facts_lines, od_Facts_lines, .func (PySem.W.fnOf "lines" "Facts.lines" (defArgs s_Facts_lines) (defBody s_Facts_lines) (defScope s_Facts_lines) .none kV_Facts_lines dc_Facts_lines pm_Facts_lines an_Facts_lines cd_Facts_lines ct_Facts_lines), sl_Facts_lines⟩)
    (fc_Facts_lines : PySem.W.codeIn K cd_Facts_lines "Facts.lines" = true)
    (fk_Facts_lines : PySem.W.keepIn K (.ref f_Facts_lines) = true)
    (fa_Facts_iter : PySem.W.findIn K (.ref C_Facts) "__iter__" = some (some (.ref f_Facts_iter)))
    (fl_Facts_iter : K.lookup f_Facts_iter = some ⟨oc_Facts_iter, od_Facts_iter, .func (PySem.W.fnOf "__iter__" "Facts.__iter__" (defArgs s_Facts_iter) (defBody s_Facts_iter) (defScope s_Facts_iter) .none kV_Facts_iter dc_Facts_iter pm_Facts_iter an_Facts_iter cd_Facts_iter ct_Facts_iter), sl_Facts_iter⟩)
    (fc_Facts_iter : PySem.W.codeIn K cd_Facts_iter "Facts.__iter__" = true)
    (fk_Facts_iter : PySem.W.keepIn K (.ref f_Facts_iter) = true)
    (fi_Facts_iter : PySem.W.isFn K (.ref f_Facts_iter) = true)
    (fa_Facts_contains : PySem.W.findIn K (.ref C_Facts) "__contains__" = some (some (.ref f_Facts_contains)))
    (fl_Facts_contains : K.lookup f_Facts_contains = some ⟨oc_Facts_contains, od_Facts_contains, .func (PySem.W.fnOf "__contains__" "Facts.__contains__" (defArgs s_Facts_contains) (defBody s_Facts_contains) (defScope s_Facts_contains) .none kV_Facts_contains dc_Facts_contains pm_Facts_contains an_Facts_contains cd_Facts_contains ct_Facts_contains), sl_Facts_contains⟩)
    (fc_Facts_contains : PySem.W.codeIn K cd_Facts_contains "Facts.__contains__" = true)
    (fk_Facts_contains : PySem.W.keepIn K (.ref f_Facts_contains) = true)
    (fi_Facts_contains : PySem.W.isFn K (.ref f_Facts_contains) = true)
    (fa_Facts_or : PySem.W.findIn K (.ref C_Facts) "__or__" = some (some (.ref f_Facts_or)))
    (fl_Facts_or : K.lookup f_Facts_or = some ⟨oc_Facts_or, od_Facts_or, .func (PySem.W.fnOf "__or__" "Facts.__or__" (defArgs s_Facts_or) (defBody s_Facts_or) (defScope s_Facts_or) .none kV_Facts_or dc_Facts_or pm_Facts_or an_Facts_or cd_Facts_or ct_Facts_or), sl_Facts_or⟩)
    (fc_Facts_or : PySem.W.codeIn K cd_Facts_or "Facts.__or__" = true)
    (fk_Facts_or : PySem.W.keepIn K (.ref f_Facts_or) = true)
    (fi_Facts_or : PySem.W.isFn K (.ref f_Facts_or) = true)
    (fa_Facts_broken : PySem.W.findIn K (.ref C_Facts) "broken" = some (some (.ref f_Facts_broken)))
    (fl_Facts_broken : K.lookup f_Facts_broken = some ⟨oc_Facts_broken, od_Facts_broken, .func (PySem.W.fnOf "broken" "Facts.broken" (defArgs s_Facts_broken) (defBody s_Facts_broken) (defScope s_Facts_broken) .none kV_Facts_broken dc_Facts_broken pm_Facts_broken an_Facts_broken cd_Facts_broken ct_Facts_broken), sl_Facts_broken⟩)
    (fc_Facts_broken : PySem.W.codeIn K cd_Facts_broken "Facts.broken" = true)
    (fk_Facts_broken : PySem.W.keepIn K (.ref f_Facts_broken) = true)
    (fi_Facts_broken : PySem.W.isFn K (.ref f_Facts_broken) = true)
    (fa_Facts_are_over : PySem.W.findIn K (.ref C_Facts) "are_over" = some (some (.ref f_Facts_are_over)))
    (fl_Facts_are_over : K.lookup f_Facts_are_over = some ⟨oc_Facts_are_over, od_Facts_are_over, .func (PySem.W.fnOf "are_over" "Facts.are_over" (defArgs s_Facts_are_over) (defBody s_Facts_are_over) (defScope s_Facts_are_over) .none kV_Facts_are_over dc_Facts_are_over pm_Facts_are_over an_Facts_are_over cd_Facts_are_over ct_Facts_are_over), sl_Facts_are_over⟩)
    (fc_Facts_are_over : PySem.W.codeIn K cd_Facts_are_over "Facts.are_over" = true)
    (fk_Facts_are_over : PySem.W.keepIn K (.ref f_Facts_are_over) = true)
    (fi_Facts_are_over : PySem.W.isFn K (.ref f_Facts_are_over) = true)
    (fa_Facts_as_read : PySem.W.findIn K (.ref C_Facts) "as_read" = some (some (.ref f_Facts_as_read)))
    (fl_Facts_as_read : K.lookup f_Facts_as_read = some ⟨oc_Facts_as_read, od_Facts_as_read, .func (PySem.W.fnOf "as_read" "Facts.as_read" (defArgs s_Facts_as_read) (defBody s_Facts_as_read) (defScope s_Facts_as_read) .none kV_Facts_as_read dc_Facts_as_read pm_Facts_as_read an_Facts_as_read cd_Facts_as_read ct_Facts_as_read), sl_Facts_as_read⟩)
    (fc_Facts_as_read : PySem.W.codeIn K cd_Facts_as_read "Facts.as_read" = true)
    (fk_Facts_as_read : PySem.W.keepIn K (.ref f_Facts_as_read) = true)
    (fi_Facts_as_read : PySem.W.isFn K (.ref f_Facts_as_read) = true)
    (fa_Facts_implies : PySem.W.findIn K (.ref C_Facts) "implies" = some (some (.ref f_Facts_implies)))
    (fl_Facts_implies : K.lookup f_Facts_implies = some ⟨oc_Facts_implies, od_Facts_implies, .func (PySem.W.fnOf "implies" "Facts.implies" (defArgs s_Facts_implies) (defBody s_Facts_implies) (defScope s_Facts_implies) .none kV_Facts_implies dc_Facts_implies pm_Facts_implies an_Facts_implies cd_Facts_implies ct_Facts_implies), sl_Facts_implies⟩)
    (fc_Facts_implies : PySem.W.codeIn K cd_Facts_implies "Facts.implies" = true)
    (fk_Facts_implies : PySem.W.keepIn K (.ref f_Facts_implies) = true)
    (fi_Facts_implies : PySem.W.isFn K (.ref f_Facts_implies) = true)
    (fa_Schema_init : PySem.W.findIn K (.ref C_Schema) "__init__" = some (some (.ref f_Schema_init)))
    (fl_Schema_init : K.lookup f_Schema_init = some ⟨oc_Schema_init, od_Schema_init, .func (PySem.W.fnOf "__init__" "Schema.__init__" (defArgs s_Schema_init) (defBody s_Schema_init) (defScope s_Schema_init) .none kV_Schema_init dc_Schema_init pm_Schema_init an_Schema_init cd_Schema_init ct_Schema_init), sl_Schema_init⟩)
    (fc_Schema_init : PySem.W.codeIn K cd_Schema_init "Schema.__init__" = true)
    (fk_Schema_init : PySem.W.keepIn K (.ref f_Schema_init) = true)
    (fi_Schema_init : PySem.W.isFn K (.ref f_Schema_init) = true)
    (fa_Schema_columns : PySem.W.findIn K (.ref C_Schema) "columns" = some (some (.ref f_Schema_columns)))
    (fl_Schema_columns : K.lookup f_Schema_columns = some ⟨oc_Schema_columns, od_Schema_columns, .func (PySem.W.fnOf "columns" "Schema.columns" (defArgs s_Schema_columns) (defBody s_Schema_columns) (defScope s_Schema_columns) .none kV_Schema_columns dc_Schema_columns pm_Schema_columns an_Schema_columns cd_Schema_columns ct_Schema_columns), sl_Schema_columns⟩)
    (fc_Schema_columns : PySem.W.codeIn K cd_Schema_columns "Schema.columns" = true)
    (fk_Schema_columns : PySem.W.keepIn K (.ref f_Schema_columns) = true)
    (fi_Schema_columns : PySem.W.isFn K (.ref f_Schema_columns) = true)
    (fa_Schema_fits : PySem.W.findIn K (.ref C_Schema) "fits" = some (some (.ref f_Schema_fits)))
    (fl_Schema_fits : K.lookup f_Schema_fits = some ⟨oc_Schema_fits, od_Schema_fits, .func (PySem.W.fnOf "fits" "Schema.fits" (defArgs s_Schema_fits) (defBody s_Schema_fits) (defScope s_Schema_fits) .none kV_Schema_fits dc_Schema_fits pm_Schema_fits an_Schema_fits cd_Schema_fits ct_Schema_fits), sl_Schema_fits⟩)
    (fc_Schema_fits : PySem.W.codeIn K cd_Schema_fits "Schema.fits" = true)
    (fk_Schema_fits : PySem.W.keepIn K (.ref f_Schema_fits) = true)
    (fi_Schema_fits : PySem.W.isFn K (.ref f_Schema_fits) = true)
    (fa_Schema_check : PySem.W.findIn K (.ref C_Schema) "check" = some (some (.ref f_Schema_check)))
    (fl_Schema_check : K.lookup f_Schema_check = some ⟨oc_Schema_check, od_Schema_check, .func (PySem.W.fnOf "check" "Schema.check" (defArgs s_Schema_check) (defBody s_Schema_check) (defScope s_Schema_check) .none kV_Schema_check dc_Schema_check pm_Schema_check an_Schema_check cd_Schema_check ct_Schema_check), sl_Schema_check⟩)
    (fc_Schema_check : PySem.W.codeIn K cd_Schema_check "Schema.check" = true)
    (fk_Schema_check : PySem.W.keepIn K (.ref f_Schema_check) = true)
    (fi_Schema_check : PySem.W.isFn K (.ref f_Schema_check) = true)
    (fa_declared_tables : PySem.W.nsIn K mainGlobals "declared_tables" = some (some (.ref f_declared_tables)))
    (fl_declared_tables : K.lookup f_declared_tables = some ⟨oc_declared_tables, od_declared_tables, .func (PySem.W.fnOf "declared_tables" "declared_tables" (defArgs s_declared_tables) (defBody s_declared_tables) (defScope s_declared_tables) .none kV_declared_tables dc_declared_tables pm_declared_tables an_declared_tables cd_declared_tables ct_declared_tables), sl_declared_tables⟩)
    (fc_declared_tables : PySem.W.codeIn K cd_declared_tables "declared_tables" = true)
    (fk_declared_tables : PySem.W.keepIn K (.ref f_declared_tables) = true)
    (fa_is_table_line : PySem.W.nsIn K mainGlobals "is_table_line" = some (some (.ref f_is_table_line)))
    (fl_is_table_line : K.lookup f_is_table_line = some ⟨oc_is_table_line, od_is_table_line, .func (PySem.W.fnOf "is_table_line" "is_table_line" (defArgs s_is_table_line) (defBody s_is_table_line) (defScope s_is_table_line) .none kV_is_table_line dc_is_table_line pm_is_table_line an_is_table_line (.ref c_is_table_line) ct_is_table_line), sl_is_table_line⟩)
    (fc_is_table_line : PySem.W.codeIn K (.ref c_is_table_line) "is_table_line" = true)
    (fk_is_table_line : PySem.W.keepIn K (.ref f_is_table_line) = true)
    (tk_is_table_line : K.lookup c_is_table_line = some ⟨tq_is_table_line, tr_is_table_line, .fields tv_is_table_line, ts_is_table_line⟩)
    (tp_is_table_line : tv_is_table_line[11]? = some (.ref P_is_table_line))
    (tn_is_table_line : K.lookup P_is_table_line = none)
    (fa_are_rows : PySem.W.nsIn K mainGlobals "are_rows" = some (some (.ref f_are_rows)))
    (fl_are_rows : K.lookup f_are_rows = some ⟨oc_are_rows, od_are_rows, .func (PySem.W.fnOf "are_rows" "are_rows" (defArgs s_are_rows) (defBody s_are_rows) (defScope s_are_rows) .none kV_are_rows dc_are_rows pm_are_rows an_are_rows (.ref c_are_rows) ct_are_rows), sl_are_rows⟩)
    (fc_are_rows : PySem.W.codeIn K (.ref c_are_rows) "are_rows" = true)
    (fk_are_rows : PySem.W.keepIn K (.ref f_are_rows) = true)
    (tk_are_rows : K.lookup c_are_rows = some ⟨tq_are_rows, tr_are_rows, .fields tv_are_rows, ts_are_rows⟩)
    (tp_are_rows : tv_are_rows[11]? = some (.ref P_are_rows))
    (tn_are_rows : K.lookup P_are_rows = none)
    (fa_is_row : PySem.W.nsIn K mainGlobals "is_row" = some (some (.ref f_is_row)))
    (fl_is_row : K.lookup f_is_row = some ⟨oc_is_row, od_is_row, .func (PySem.W.fnOf "is_row" "is_row" (defArgs s_is_row) (defBody s_is_row) (defScope s_is_row) .none kV_is_row dc_is_row pm_is_row an_is_row (.ref c_is_row) ct_is_row), sl_is_row⟩)
    (fc_is_row : PySem.W.codeIn K (.ref c_is_row) "is_row" = true)
    (fk_is_row : PySem.W.keepIn K (.ref f_is_row) = true)
    (tk_is_row : K.lookup c_is_row = some ⟨tq_is_row, tr_is_row, .fields tv_is_row, ts_is_row⟩)
    (tp_is_row : tv_is_row[11]? = some (.ref P_is_row))
    (tn_is_row : K.lookup P_is_row = none)
    (fa_is_integer : PySem.W.nsIn K mainGlobals "is_integer" = some (some (.ref f_is_integer)))
    (fl_is_integer : K.lookup f_is_integer = some ⟨oc_is_integer, od_is_integer, .func (PySem.W.fnOf "is_integer" "is_integer" (defArgs s_is_integer) (defBody s_is_integer) (defScope s_is_integer) .none kV_is_integer dc_is_integer pm_is_integer an_is_integer cd_is_integer ct_is_integer), sl_is_integer⟩)
    (fc_is_integer : PySem.W.codeIn K cd_is_integer "is_integer" = true)
    (fk_is_integer : PySem.W.keepIn K (.ref f_is_integer) = true)
    (fa_begun_pen : PySem.W.nsIn K mainGlobals "_law_begun_pen" = some (some (.ref f_begun_pen)))
    (fl_begun_pen : K.lookup f_begun_pen = some ⟨oc_begun_pen, od_begun_pen, .func (PySem.W.fnOf "_law_begun_pen" "_law_begun_pen" (defArgs s_begun_pen) (defBody s_begun_pen) (defScope s_begun_pen) .none kV_begun_pen dc_begun_pen pm_begun_pen an_begun_pen cd_begun_pen ct_begun_pen), sl_begun_pen⟩)
    (fc_begun_pen : PySem.W.codeIn K cd_begun_pen "_law_begun_pen" = true)
    (fk_begun_pen : PySem.W.keepIn K (.ref f_begun_pen) = true)
    (fa_draw : PySem.W.nsIn K mainGlobals "_law_draw" = some (some (.ref f_draw)))
    (fl_draw : K.lookup f_draw = some ⟨oc_draw, od_draw, .func (PySem.W.fnOf "_law_draw" "_law_draw" (defArgs s_draw) (defBody s_draw) (defScope s_draw) .none kV_draw dc_draw pm_draw an_draw cd_draw ct_draw), sl_draw⟩)
    (fc_draw : PySem.W.codeIn K cd_draw "_law_draw" = true)
    (fk_draw : PySem.W.keepIn K (.ref f_draw) = true)
    (fa_pick : PySem.W.nsIn K mainGlobals "_law_pick" = some (some (.ref f_pick)))
    (fl_pick : K.lookup f_pick = some ⟨oc_pick, od_pick, .func (PySem.W.fnOf "_law_pick" "_law_pick" (defArgs s_pick) (defBody s_pick) (defScope s_pick) .none kV_pick dc_pick pm_pick an_pick cd_pick ct_pick), sl_pick⟩)
    (fc_pick : PySem.W.codeIn K cd_pick "_law_pick" = true)
    (fk_pick : PySem.W.keepIn K (.ref f_pick) = true)
    (fa_shuffled : PySem.W.nsIn K mainGlobals "_law_shuffled" = some (some (.ref f_shuffled)))
    (fl_shuffled : K.lookup f_shuffled = some ⟨oc_shuffled, od_shuffled, .func (PySem.W.fnOf "_law_shuffled" "_law_shuffled" (defArgs s_shuffled) (defBody s_shuffled) (defScope s_shuffled) .none kV_shuffled dc_shuffled pm_shuffled an_shuffled cd_shuffled ct_shuffled), sl_shuffled⟩)
    (fc_shuffled : PySem.W.codeIn K cd_shuffled "_law_shuffled" = true)
    (fk_shuffled : PySem.W.keepIn K (.ref f_shuffled) = true)
    (fa_new_names : PySem.W.nsIn K mainGlobals "_law_new_names" = some (some (.ref f_new_names)))
    (fl_new_names : K.lookup f_new_names = some ⟨oc_new_names, od_new_names, .func (PySem.W.fnOf "_law_new_names" "_law_new_names" (defArgs s_new_names) (defBody s_new_names) (defScope s_new_names) .none kV_new_names dc_new_names pm_new_names an_new_names cd_new_names ct_new_names), sl_new_names⟩)
    (fc_new_names : PySem.W.codeIn K cd_new_names "_law_new_names" = true)
    (fk_new_names : PySem.W.keepIn K (.ref f_new_names) = true)
    (fa_columns : PySem.W.nsIn K mainGlobals "_law_columns" = some (some (.ref f_columns)))
    (fl_columns : K.lookup f_columns = some ⟨oc_columns, od_columns, .func (PySem.W.fnOf "_law_columns" "_law_columns" (defArgs s_columns) (defBody s_columns) (defScope s_columns) .none kV_columns dc_columns pm_columns an_columns cd_columns ct_columns), sl_columns⟩)
    (fc_columns : PySem.W.codeIn K cd_columns "_law_columns" = true)
    (fk_columns : PySem.W.keepIn K (.ref f_columns) = true)
    (fa_new_integer : PySem.W.nsIn K mainGlobals "_law_new_integer" = some (some (.ref f_new_integer)))
    (fl_new_integer : K.lookup f_new_integer = some ⟨oc_new_integer, od_new_integer, .func (PySem.W.fnOf "_law_new_integer" "_law_new_integer" (defArgs s_new_integer) (defBody s_new_integer) (defScope s_new_integer) .none kV_new_integer dc_new_integer pm_new_integer an_new_integer cd_new_integer ct_new_integer), sl_new_integer⟩)
    (fc_new_integer : PySem.W.codeIn K cd_new_integer "_law_new_integer" = true)
    (fk_new_integer : PySem.W.keepIn K (.ref f_new_integer) = true)
    (fa_new_rows : PySem.W.nsIn K mainGlobals "_law_new_rows" = some (some (.ref f_new_rows)))
    (fl_new_rows : K.lookup f_new_rows = some ⟨oc_new_rows, od_new_rows, .func (PySem.W.fnOf "_law_new_rows" "_law_new_rows" (defArgs s_new_rows) (defBody s_new_rows) (defScope s_new_rows) .none kV_new_rows dc_new_rows pm_new_rows an_new_rows cd_new_rows ct_new_rows), sl_new_rows⟩)
    (fc_new_rows : PySem.W.codeIn K cd_new_rows "_law_new_rows" = true)
    (fk_new_rows : PySem.W.keepIn K (.ref f_new_rows) = true)
    (fa_lawkeeps : PySem.W.nsIn K mainGlobals "_law_keeps" = some (some (.ref f_lawkeeps)))
    (fl_lawkeeps : K.lookup f_lawkeeps = some ⟨oc_lawkeeps, od_lawkeeps, .func (PySem.W.fnOf "_law_keeps" "_law_keeps" (defArgs s_lawkeeps) (defBody s_lawkeeps) (defScope s_lawkeeps) .none kV_lawkeeps dc_lawkeeps pm_lawkeeps an_lawkeeps cd_lawkeeps ct_lawkeeps), sl_lawkeeps⟩)
    (fc_lawkeeps : PySem.W.codeIn K cd_lawkeeps "_law_keeps" = true)
    (fk_lawkeeps : PySem.W.keepIn K (.ref f_lawkeeps) = true)
    (fa_drawn_tables : PySem.W.nsIn K mainGlobals "_law_drawn_tables" = some (some (.ref f_drawn_tables)))
    (fl_drawn_tables : K.lookup f_drawn_tables = some ⟨oc_drawn_tables, od_drawn_tables, .func (PySem.W.fnOf "_law_drawn_tables" "_law_drawn_tables" (defArgs s_drawn_tables) (defBody s_drawn_tables) (defScope s_drawn_tables) .none kV_drawn_tables dc_drawn_tables pm_drawn_tables an_drawn_tables cd_drawn_tables ct_drawn_tables), sl_drawn_tables⟩)
    (fc_drawn_tables : PySem.W.codeIn K cd_drawn_tables "_law_drawn_tables" = true)
    (fk_drawn_tables : PySem.W.keepIn K (.ref f_drawn_tables) = true)
    (fa_schema_text : PySem.W.nsIn K mainGlobals "_law_schema_text" = some (some (.ref f_schema_text)))
    (fl_schema_text : K.lookup f_schema_text = some ⟨oc_schema_text, od_schema_text, .func (PySem.W.fnOf "_law_schema_text" "_law_schema_text" (defArgs s_schema_text) (defBody s_schema_text) (defScope s_schema_text) .none kV_schema_text dc_schema_text pm_schema_text an_schema_text cd_schema_text ct_schema_text), sl_schema_text⟩)
    (fc_schema_text : PySem.W.codeIn K cd_schema_text "_law_schema_text" = true)
    (fk_schema_text : PySem.W.keepIn K (.ref f_schema_text) = true)
    (fa_spot : PySem.W.nsIn K mainGlobals "_law_spot" = some (some (.ref f_spot)))
    (fl_spot : K.lookup f_spot = some ⟨oc_spot, od_spot, .func (PySem.W.fnOf "_law_spot" "_law_spot" (defArgs s_spot) (defBody s_spot) (defScope s_spot) .none kV_spot dc_spot pm_spot an_spot cd_spot ct_spot), sl_spot⟩)
    (fc_spot : PySem.W.codeIn K cd_spot "_law_spot" = true)
    (fk_spot : PySem.W.keepIn K (.ref f_spot) = true)
    (fa_new_fact : PySem.W.nsIn K mainGlobals "_law_new_fact" = some (some (.ref f_new_fact)))
    (fl_new_fact : K.lookup f_new_fact = some ⟨oc_new_fact, od_new_fact, .func (PySem.W.fnOf "_law_new_fact" "_law_new_fact" (defArgs s_new_fact) (defBody s_new_fact) (defScope s_new_fact) .none kV_new_fact dc_new_fact pm_new_fact an_new_fact cd_new_fact ct_new_fact), sl_new_fact⟩)
    (fc_new_fact : PySem.W.codeIn K cd_new_fact "_law_new_fact" = true)
    (fk_new_fact : PySem.W.keepIn K (.ref f_new_fact) = true)
    (fa_new_facts : PySem.W.nsIn K mainGlobals "_law_new_facts" = some (some (.ref f_new_facts)))
    (fl_new_facts : K.lookup f_new_facts = some ⟨oc_new_facts, od_new_facts, .func (PySem.W.fnOf "_law_new_facts" "_law_new_facts" (defArgs s_new_facts) (defBody s_new_facts) (defScope s_new_facts) .none kV_new_facts dc_new_facts pm_new_facts an_new_facts cd_new_facts ct_new_facts), sl_new_facts⟩)
    (fc_new_facts : PySem.W.codeIn K cd_new_facts "_law_new_facts" = true)
    (fk_new_facts : PySem.W.keepIn K (.ref f_new_facts) = true)
    (fa_told_table : PySem.W.nsIn K mainGlobals "_law_told_table" = some (some (.ref f_told_table)))
    (fl_told_table : K.lookup f_told_table = some ⟨oc_told_table, od_told_table, .func (PySem.W.fnOf "_law_told_table" "_law_told_table" (defArgs s_told_table) (defBody s_told_table) (defScope s_told_table) .none kV_told_table dc_told_table pm_told_table an_told_table cd_told_table ct_told_table), sl_told_table⟩)
    (fc_told_table : PySem.W.codeIn K cd_told_table "_law_told_table" = true)
    (fk_told_table : PySem.W.keepIn K (.ref f_told_table) = true)
    (fa_nearly_kept : PySem.W.nsIn K mainGlobals "_law_nearly_kept" = some (some (.ref f_nearly_kept)))
    (fl_nearly_kept : K.lookup f_nearly_kept = some ⟨oc_nearly_kept, od_nearly_kept, .func (PySem.W.fnOf "_law_nearly_kept" "_law_nearly_kept" (defArgs s_nearly_kept) (defBody s_nearly_kept) (defScope s_nearly_kept) .none kV_nearly_kept dc_nearly_kept pm_nearly_kept an_nearly_kept cd_nearly_kept ct_nearly_kept), sl_nearly_kept⟩)
    (fc_nearly_kept : PySem.W.codeIn K cd_nearly_kept "_law_nearly_kept" = true)
    (fk_nearly_kept : PySem.W.keepIn K (.ref f_nearly_kept) = true)
    (fa_refusals_right : PySem.W.nsIn K mainGlobals "_law_refusals_right" = some (some (.ref f_refusals_right)))
    (fl_refusals_right : K.lookup f_refusals_right = some ⟨oc_refusals_right, od_refusals_right, .func (PySem.W.fnOf "_law_refusals_right" "_law_refusals_right" (defArgs s_refusals_right) (defBody s_refusals_right) (defScope s_refusals_right) .none kV_refusals_right dc_refusals_right pm_refusals_right an_refusals_right cd_refusals_right ct_refusals_right), sl_refusals_right⟩)
    (fc_refusals_right : PySem.W.codeIn K cd_refusals_right "_law_refusals_right" = true)
    (fk_refusals_right : PySem.W.keepIn K (.ref f_refusals_right) = true)
    (fa_law : PySem.W.nsIn K mainGlobals "law" = some (some (.ref f_law)))
    (fl_law : K.lookup f_law = some ⟨oc_law, od_law, .func (PySem.W.fnOf "law" "law" (defArgs s_law) (defBody s_law) (defScope s_law) .none kV_law dc_law pm_law an_law cd_law ct_law), sl_law⟩)
    (fc_law : PySem.W.codeIn K cd_law "law" = true)
    (fk_law : PySem.W.keepIn K (.ref f_law) = true)
    : TX K mg where
  z_all := PySem.W.mg_none_of X G z_all
  z_len := PySem.W.mg_none_of X G z_len
  z_enumerate := PySem.W.mg_none_of X G z_enumerate
  z_any := PySem.W.mg_none_of X G z_any
  z_sorted := PySem.W.mg_none_of X G z_sorted
  z_set := PySem.W.mg_none_of X G z_set
  z_property := PySem.W.mg_none_of X G z_property
  z_list := PySem.W.mg_none_of X G z_list
  z_iter := PySem.W.mg_none_of X G z_iter
  z_tuple := PySem.W.mg_none_of X G z_tuple
  z_isinstance := PySem.W.mg_none_of X G z_isinstance
  z_int := PySem.W.mg_none_of X G z_int
  z_bool := PySem.W.mg_none_of X G z_bool
  z_abs := PySem.W.mg_none_of X G z_abs
  z_range := PySem.W.mg_none_of X G z_range
  z_dict := PySem.W.mg_none_of X G z_dict
  c_LETTERS := ⟨_, PySem.W.mg_of X G c_LETTERS⟩
  c_LONGEST_NAME := ⟨_, PySem.W.mg_of X G c_LONGEST_NAME⟩
  a_RESERVED := A_RESERVED
  c_RESERVED := PySem.W.mg_of X G c_RESERVED
  v_RESERVED := ⟨_, _, _, _, (.cons ⟨_, rfl⟩ (.cons ⟨_, rfl⟩ (.cons ⟨_, rfl⟩ (.cons ⟨_, rfl⟩ (.cons ⟨_, rfl⟩ (.cons ⟨_, rfl⟩ (.cons ⟨_, rfl⟩ (.cons ⟨_, rfl⟩ (.cons ⟨_, rfl⟩ (.cons ⟨_, rfl⟩ (.cons ⟨_, rfl⟩ (.cons ⟨_, rfl⟩ (.cons ⟨_, rfl⟩ (.cons ⟨_, rfl⟩ (.cons ⟨_, rfl⟩ (.cons ⟨_, rfl⟩ (.cons ⟨_, rfl⟩ (.cons ⟨_, rfl⟩ (.cons ⟨_, rfl⟩ (.cons ⟨_, rfl⟩ (.cons ⟨_, rfl⟩ (.cons ⟨_, rfl⟩ (.cons ⟨_, rfl⟩ (.cons ⟨_, rfl⟩ (.cons ⟨_, rfl⟩ (.cons ⟨_, rfl⟩ (.cons ⟨_, rfl⟩ (.cons ⟨_, rfl⟩ (.cons ⟨_, rfl⟩ (.cons ⟨_, rfl⟩ .nil)))))))))))))))))))))))))))))), v_RESERVED⟩
  a_OF_TABLES := A_OF_TABLES
  c_OF_TABLES := PySem.W.mg_of X G c_OF_TABLES
  v_OF_TABLES := ⟨_, _, _, _, (.cons ⟨_, rfl⟩ (.cons ⟨_, rfl⟩ .nil)), v_OF_TABLES⟩
  a_OF_COLUMNS := A_OF_COLUMNS
  c_OF_COLUMNS := PySem.W.mg_of X G c_OF_COLUMNS
  v_OF_COLUMNS := ⟨_, _, _, _, (.cons ⟨_, rfl⟩ (.cons ⟨_, rfl⟩ .nil)), v_OF_COLUMNS⟩
  c_MOST_TABLES := ⟨_, PySem.W.mg_of X G c_MOST_TABLES⟩
  c_MOST_COLUMNS := ⟨_, PySem.W.mg_of X G c_MOST_COLUMNS⟩
  e_LookError := xe_LookError
  x_LookError := ⟨C_LookError, PySem.W.mg_of X G xa_LookError, ⟨_, _, _, _, _, _, _, _, _, _, _, _, _, xl_LookError⟩, rfl, xs_LookError, xg_LookError, xt_LookError, xc_LookError, xk_LookError, gn, gt⟩
  x_BadTables := ⟨C_BadTables, PySem.W.mg_of X G xa_BadTables, ⟨_, _, _, _, _, _, _, _, _, _, _, _, _, xl_BadTables⟩, rfl, xs_BadTables, xg_BadTables, xt_BadTables, xc_BadTables, xk_BadTables, gn, gt⟩
  x_BadFact := ⟨C_BadFact, PySem.W.mg_of X G xa_BadFact, ⟨_, _, _, _, _, _, _, _, _, _, _, _, _, xl_BadFact⟩, rfl, xs_BadFact, xg_BadFact, xt_BadFact, xc_BadFact, xk_BadFact, gn, gt⟩
  x_BadProgram := ⟨C_BadProgram, PySem.W.mg_of X G xa_BadProgram, ⟨_, _, _, _, _, _, _, _, _, _, _, _, _, xl_BadProgram⟩, rfl, xs_BadProgram, xg_BadProgram, xt_BadProgram, xc_BadProgram, xk_BadProgram, gn, gt⟩
  e_OtherTables := xe_OtherTables
  x_OtherTables := ⟨C_OtherTables, PySem.W.mg_of X G xa_OtherTables, ⟨_, _, _, _, _, _, _, _, _, _, _, _, _, xl_OtherTables⟩, rfl, xs_OtherTables, xg_OtherTables, xt_OtherTables, xc_OtherTables, xk_OtherTables, gn, gt⟩
  x_NoName := ⟨C_NoName, PySem.W.mg_of X G xa_NoName, ⟨_, _, _, _, _, _, _, _, _, _, _, _, _, xl_NoName⟩, rfl, xs_NoName, xg_NoName, xt_NoName, xc_NoName, xk_NoName, gn, gt⟩
  C_Facts := C_Facts
  g_Facts := PySem.W.mg_of X G ca_Facts
  cl_Facts := ⟨pg_Facts, hd_Facts, po_Facts, sa_Facts⟩
  n_Facts__schema := nf_Facts__schema
  n_Facts__facts := nf_Facts__facts
  C_Schema := C_Schema
  g_Schema := PySem.W.mg_of X G ca_Schema
  cl_Schema := ⟨pg_Schema, hd_Schema, po_Schema, sa_Schema⟩
  n_Schema__columns := nf_Schema__columns
  n_Schema_tables := nf_Schema_tables
  a_wall := f_wall
  fd_wall := _
  F_wall := fun_mk (st := s_wall) fl_wall fc_wall fk_wall
  b_wall := (fun_mk (st := s_wall) fl_wall fc_wall fk_wall).binds (ps := p_wall) fun _ _ _ _ _ _ us hl => match us, hl with | [_], _ => rfl
  g_wall := PySem.W.mg_of X G fa_wall
  a_BadTables_init := f_BadTables_init
  fd_BadTables_init := _
  F_BadTables_init := fun_mk (st := s_BadTables_init) fl_BadTables_init fc_BadTables_init fk_BadTables_init
  b_BadTables_init := (fun_mk (st := s_BadTables_init) fl_BadTables_init fc_BadTables_init fk_BadTables_init).binds (ps := p_BadTables_init) fun _ _ _ _ _ _ us hl => match us, hl with | [_, _], _ => rfl
  i_BadTables_init := fa_BadTables_init
  t_BadTables_init := ft_BadTables_init
  f_BadTables_init_table := fn_BadTables_init_table
  a_BadFact_init := f_BadFact_init
  fd_BadFact_init := _
  F_BadFact_init := fun_mk (st := s_BadFact_init) fl_BadFact_init fc_BadFact_init fk_BadFact_init
  b_BadFact_init := (fun_mk (st := s_BadFact_init) fl_BadFact_init fc_BadFact_init fk_BadFact_init).binds (ps := p_BadFact_init) fun _ _ _ _ _ _ us hl => match us, hl with | [_, _], _ => rfl
  i_BadFact_init := fa_BadFact_init
  t_BadFact_init := ft_BadFact_init
  f_BadFact_init_index := fn_BadFact_init_index
  a_BadProgram_init := f_BadProgram_init
  fd_BadProgram_init := _
  F_BadProgram_init := fun_mk (st := s_BadProgram_init) fl_BadProgram_init fc_BadProgram_init fk_BadProgram_init
  b_BadProgram_init := (fun_mk (st := s_BadProgram_init) fl_BadProgram_init fc_BadProgram_init fk_BadProgram_init).binds (ps := p_BadProgram_init) fun _ _ _ _ _ _ us hl => match us, hl with | [_, _], _ => rfl
  i_BadProgram_init := fa_BadProgram_init
  t_BadProgram_init := ft_BadProgram_init
  f_BadProgram_init_line := fn_BadProgram_init_line
  a_NoName_init := f_NoName_init
  fd_NoName_init := _
  F_NoName_init := fun_mk (st := s_NoName_init) fl_NoName_init fc_NoName_init fk_NoName_init
  b_NoName_init := (fun_mk (st := s_NoName_init) fl_NoName_init fc_NoName_init fk_NoName_init).binds (ps := p_NoName_init) fun _ _ _ _ _ _ us hl => match us, hl with | [_, _], _ => rfl
  i_NoName_init := fa_NoName_init
  t_NoName_init := ft_NoName_init
  f_NoName_init_name := fn_NoName_init_name
  a_reached := f_reached
  fd_reached := _
  F_reached := fun_mk (st := s_reached) fl_reached fc_reached fk_reached
  b_reached := (fun_mk (st := s_reached) fl_reached fc_reached fk_reached).binds (ps := p_reached) fun _ _ _ _ _ _ us hl => match us, hl with | [_, _], _ => rfl
  g_reached := PySem.W.mg_of X G fa_reached
  a_lines_of := f_lines_of
  fd_lines_of := _
  F_lines_of := fun_mk (st := s_lines_of) fl_lines_of fc_lines_of fk_lines_of
  b_lines_of := (fun_mk (st := s_lines_of) fl_lines_of fc_lines_of fk_lines_of).binds (ps := p_lines_of) fun _ _ _ _ _ _ us hl => match us, hl with | [_], _ => rfl
  g_lines_of := PySem.W.mg_of X G fa_lines_of
  a_words_of := f_words_of
  fd_words_of := _
  F_words_of := fun_mk (st := s_words_of) fl_words_of fc_words_of fk_words_of
  b_words_of := (fun_mk (st := s_words_of) fl_words_of fc_words_of fk_words_of).binds (ps := p_words_of) fun _ _ _ _ _ _ us hl => match us, hl with | [_], _ => rfl
  g_words_of := PySem.W.mg_of X G fa_words_of
  tn_is_name := tn_is_name
  c_is_name := c_is_name
  P_is_name := P_is_name
  t_is_name := rfl
  tb_is_name := L2.Gq.tabIn_of fa_is_name fl_is_name rfl tk_is_name tp_is_name
  a_is_name := f_is_name
  fd_is_name := _
  F_is_name := fun_mk (st := s_is_name) fl_is_name fc_is_name fk_is_name
  b_is_name := (fun_mk (st := s_is_name) fl_is_name fc_is_name fk_is_name).binds (ps := p_is_name) fun _ _ _ _ _ _ us hl => match us, hl with | [_], _ => rfl
  g_is_name := PySem.W.mg_of X G fa_is_name
  a_read_facts := f_read_facts
  fd_read_facts := _
  F_read_facts := fun_mk (st := s_read_facts) fl_read_facts fc_read_facts fk_read_facts
  b_read_facts := (fun_mk (st := s_read_facts) fl_read_facts fc_read_facts fk_read_facts).binds (ps := p_read_facts) fun _ _ _ _ _ _ us hl => match us, hl with | [_, _], _ => rfl
  g_read_facts := PySem.W.mg_of X G fa_read_facts
  a_read_fact := f_read_fact
  fd_read_fact := _
  F_read_fact := fun_mk (st := s_read_fact) fl_read_fact fc_read_fact fk_read_fact
  b_read_fact := (fun_mk (st := s_read_fact) fl_read_fact fc_read_fact fk_read_fact).binds (ps := p_read_fact) fun _ _ _ _ _ _ us hl => match us, hl with | [_, _], _ => rfl
  g_read_fact := PySem.W.mg_of X G fa_read_fact
  a_read_table := f_read_table
  fd_read_table := _
  F_read_table := fun_mk (st := s_read_table) fl_read_table fc_read_table fk_read_table
  b_read_table := (fun_mk (st := s_read_table) fl_read_table fc_read_table fk_read_table).binds (ps := p_read_table) fun _ _ _ _ _ _ us hl => match us, hl with | [_, _], _ => rfl
  g_read_table := PySem.W.mg_of X G fa_read_table
  a_read_column := f_read_column
  fd_read_column := _
  F_read_column := fun_mk (st := s_read_column) fl_read_column fc_read_column fk_read_column
  b_read_column := (fun_mk (st := s_read_column) fl_read_column fc_read_column fk_read_column).binds (ps := p_read_column) fun _ _ _ _ _ _ us hl => match us, hl with | [_, _], _ => rfl
  g_read_column := PySem.W.mg_of X G fa_read_column
  tn_leads_back := tn_leads_back
  c_leads_back := c_leads_back
  P_leads_back := P_leads_back
  t_leads_back := rfl
  tb_leads_back := L2.Gq.tabIn_of fa_leads_back fl_leads_back rfl tk_leads_back tp_leads_back
  a_leads_back := f_leads_back
  fd_leads_back := _
  F_leads_back := fun_mk (st := s_leads_back) fl_leads_back fc_leads_back fk_leads_back
  b_leads_back := (fun_mk (st := s_leads_back) fl_leads_back fc_leads_back fk_leads_back).binds (ps := p_leads_back) fun _ _ _ _ _ _ us hl => match us, hl with | [_, _], _ => rfl
  g_leads_back := PySem.W.mg_of X G fa_leads_back
  a_column_links := f_column_links
  fd_column_links := _
  F_column_links := fun_mk (st := s_column_links) fl_column_links fc_column_links fk_column_links
  b_column_links := (fun_mk (st := s_column_links) fl_column_links fc_column_links fk_column_links).binds (ps := p_column_links) fun _ _ _ _ _ _ us hl => match us, hl with | [_], _ => rfl
  g_column_links := PySem.W.mg_of X G fa_column_links
  a_table_links := f_table_links
  fd_table_links := _
  F_table_links := fun_mk (st := s_table_links) fl_table_links fc_table_links fk_table_links
  b_table_links := (fun_mk (st := s_table_links) fl_table_links fc_table_links fk_table_links).binds (ps := p_table_links) fun _ _ _ _ _ _ us hl => match us, hl with | [_], _ => rfl
  g_table_links := PySem.W.mg_of X G fa_table_links
  a_keeps := f_keeps
  fd_keeps := _
  F_keeps := fun_mk (st := s_keeps) fl_keeps fc_keeps fk_keeps
  b_keeps := (fun_mk (st := s_keeps) fl_keeps fc_keeps fk_keeps).binds (ps := p_keeps) fun _ _ _ _ _ _ us hl => match us, hl with | [_, _, _], _ => rfl
  g_keeps := PySem.W.mg_of X G fa_keeps
  a_column_values := f_column_values
  fd_column_values := _
  F_column_values := fun_mk (st := s_column_values) fl_column_values fc_column_values fk_column_values
  b_column_values := (fun_mk (st := s_column_values) fl_column_values fc_column_values fk_column_values).binds (ps := p_column_values) fun _ _ _ _ _ _ us hl => match us, hl with | [_, _, _], _ => rfl
  g_column_values := PySem.W.mg_of X G fa_column_values
  a_are_among := f_are_among
  fd_are_among := _
  F_are_among := fun_mk (st := s_are_among) fl_are_among fc_are_among fk_are_among
  b_are_among := (fun_mk (st := s_are_among) fl_are_among fc_are_among fk_are_among).binds (ps := p_are_among) fun _ _ _ _ _ _ us hl => match us, hl with | [_, _], _ => rfl
  g_are_among := PySem.W.mg_of X G fa_are_among
  a_Facts_init := f_Facts_init
  fd_Facts_init := _
  F_Facts_init := fun_mk (st := s_Facts_init) fl_Facts_init fc_Facts_init fk_Facts_init
  b_Facts_init := (fun_mk (st := s_Facts_init) fl_Facts_init fc_Facts_init fk_Facts_init).binds (ps := p_Facts_init) fun _ _ _ _ _ _ us hl => match us, hl with | [_, _, _], _ => rfl
  mk_Facts := ⟨ma_Facts, fa_Facts_init, fi_Facts_init, kc_Facts⟩
  a_Facts_lines := f_Facts_lines
  fd_Facts_lines := _
  F_Facts_lines := fun_mk (st := s_Facts_lines) fl_Facts_lines fc_Facts_lines fk_Facts_lines
  b_Facts_lines := (fun_mk (st := s_Facts_lines) fl_Facts_lines fc_Facts_lines fk_Facts_lines).binds (ps := p_Facts_lines) fun _ _ _ _ _ _ us hl => match us, hl with | [_], _ => rfl
  pp_Facts_lines := pp_Facts_lines
  pr_Facts_lines := ⟨pa_Facts_lines, pq_Facts_lines, pt_Facts_lines, _, pv_Facts_lines⟩
  a_Facts_iter := f_Facts_iter
  fd_Facts_iter := _
  F_Facts_iter := fun_mk (st := s_Facts_iter) fl_Facts_iter fc_Facts_iter fk_Facts_iter
  b_Facts_iter := (fun_mk (st := s_Facts_iter) fl_Facts_iter fc_Facts_iter fk_Facts_iter).binds (ps := p_Facts_iter) fun _ _ _ _ _ _ us hl => match us, hl with | [_], _ => rfl
  io_Facts_iter := ⟨fa_Facts_iter, fi_Facts_iter⟩
  a_Facts_contains := f_Facts_contains
  fd_Facts_contains := _
  F_Facts_contains := fun_mk (st := s_Facts_contains) fl_Facts_contains fc_Facts_contains fk_Facts_contains
  b_Facts_contains := (fun_mk (st := s_Facts_contains) fl_Facts_contains fc_Facts_contains fk_Facts_contains).binds (ps := p_Facts_contains) fun _ _ _ _ _ _ us hl => match us, hl with | [_, _], _ => rfl
  ic_Facts_contains := ⟨fa_Facts_contains, fi_Facts_contains⟩
  a_Facts_or := f_Facts_or
  fd_Facts_or := _
  F_Facts_or := fun_mk (st := s_Facts_or) fl_Facts_or fc_Facts_or fk_Facts_or
  b_Facts_or := (fun_mk (st := s_Facts_or) fl_Facts_or fc_Facts_or fk_Facts_or).binds (ps := p_Facts_or) fun _ _ _ _ _ _ us hl => match us, hl with | [_, _], _ => rfl
  m_Facts_or := ⟨fa_Facts_or, fi_Facts_or, fk_Facts_or⟩
  a_Facts_broken := f_Facts_broken
  fd_Facts_broken := _
  F_Facts_broken := fun_mk (st := s_Facts_broken) fl_Facts_broken fc_Facts_broken fk_Facts_broken
  b_Facts_broken := (fun_mk (st := s_Facts_broken) fl_Facts_broken fc_Facts_broken fk_Facts_broken).binds (ps := p_Facts_broken) fun _ _ _ _ _ _ us hl => match us, hl with | [_, _], _ => rfl
  m_Facts_broken := ⟨fa_Facts_broken, fi_Facts_broken, fk_Facts_broken⟩
  a_Facts_are_over := f_Facts_are_over
  fd_Facts_are_over := _
  F_Facts_are_over := fun_mk (st := s_Facts_are_over) fl_Facts_are_over fc_Facts_are_over fk_Facts_are_over
  b_Facts_are_over := (fun_mk (st := s_Facts_are_over) fl_Facts_are_over fc_Facts_are_over fk_Facts_are_over).binds (ps := p_Facts_are_over) fun _ _ _ _ _ _ us hl => match us, hl with | [_, _], _ => rfl
  m_Facts_are_over := ⟨fa_Facts_are_over, fi_Facts_are_over, fk_Facts_are_over⟩
  a_Facts_as_read := f_Facts_as_read
  fd_Facts_as_read := _
  F_Facts_as_read := fun_mk (st := s_Facts_as_read) fl_Facts_as_read fc_Facts_as_read fk_Facts_as_read
  b_Facts_as_read := (fun_mk (st := s_Facts_as_read) fl_Facts_as_read fc_Facts_as_read fk_Facts_as_read).binds (ps := p_Facts_as_read) fun _ _ _ _ _ _ us hl => match us, hl with | [_], _ => rfl
  m_Facts_as_read := ⟨fa_Facts_as_read, fi_Facts_as_read, fk_Facts_as_read⟩
  a_Facts_implies := f_Facts_implies
  fd_Facts_implies := _
  F_Facts_implies := fun_mk (st := s_Facts_implies) fl_Facts_implies fc_Facts_implies fk_Facts_implies
  b_Facts_implies := (fun_mk (st := s_Facts_implies) fl_Facts_implies fc_Facts_implies fk_Facts_implies).binds (ps := p_Facts_implies) fun _ _ _ _ _ _ us hl => match us, hl with | [_, _], _ => rfl
  m_Facts_implies := ⟨fa_Facts_implies, fi_Facts_implies, fk_Facts_implies⟩
  a_Schema_init := f_Schema_init
  fd_Schema_init := _
  F_Schema_init := fun_mk (st := s_Schema_init) fl_Schema_init fc_Schema_init fk_Schema_init
  b_Schema_init := (fun_mk (st := s_Schema_init) fl_Schema_init fc_Schema_init fk_Schema_init).binds (ps := p_Schema_init) fun _ _ _ _ _ _ us hl => match us, hl with | [_, _], _ => rfl
  mk_Schema := ⟨ma_Schema, fa_Schema_init, fi_Schema_init, kc_Schema⟩
  a_Schema_columns := f_Schema_columns
  fd_Schema_columns := _
  F_Schema_columns := fun_mk (st := s_Schema_columns) fl_Schema_columns fc_Schema_columns fk_Schema_columns
  b_Schema_columns := (fun_mk (st := s_Schema_columns) fl_Schema_columns fc_Schema_columns fk_Schema_columns).binds (ps := p_Schema_columns) fun _ _ _ _ _ _ us hl => match us, hl with | [_, _], _ => rfl
  m_Schema_columns := ⟨fa_Schema_columns, fi_Schema_columns, fk_Schema_columns⟩
  a_Schema_fits := f_Schema_fits
  fd_Schema_fits := _
  F_Schema_fits := fun_mk (st := s_Schema_fits) fl_Schema_fits fc_Schema_fits fk_Schema_fits
  b_Schema_fits := (fun_mk (st := s_Schema_fits) fl_Schema_fits fc_Schema_fits fk_Schema_fits).binds (ps := p_Schema_fits) fun _ _ _ _ _ _ us hl => match us, hl with | [_, _], _ => rfl
  m_Schema_fits := ⟨fa_Schema_fits, fi_Schema_fits, fk_Schema_fits⟩
  a_Schema_check := f_Schema_check
  fd_Schema_check := _
  F_Schema_check := fun_mk (st := s_Schema_check) fl_Schema_check fc_Schema_check fk_Schema_check
  b_Schema_check := (fun_mk (st := s_Schema_check) fl_Schema_check fc_Schema_check fk_Schema_check).binds (ps := p_Schema_check) fun _ _ _ _ _ _ us hl => match us, hl with | [_, _], _ => rfl
  m_Schema_check := ⟨fa_Schema_check, fi_Schema_check, fk_Schema_check⟩
  a_declared_tables := f_declared_tables
  fd_declared_tables := _
  F_declared_tables := fun_mk (st := s_declared_tables) fl_declared_tables fc_declared_tables fk_declared_tables
  b_declared_tables := (fun_mk (st := s_declared_tables) fl_declared_tables fc_declared_tables fk_declared_tables).binds (ps := p_declared_tables) fun _ _ _ _ _ _ us hl => match us, hl with | [_], _ => rfl
  g_declared_tables := PySem.W.mg_of X G fa_declared_tables
  tn_is_table_line := tn_is_table_line
  c_is_table_line := c_is_table_line
  P_is_table_line := P_is_table_line
  t_is_table_line := rfl
  tb_is_table_line := L2.Gq.tabIn_of fa_is_table_line fl_is_table_line rfl tk_is_table_line tp_is_table_line
  a_is_table_line := f_is_table_line
  fd_is_table_line := _
  F_is_table_line := fun_mk (st := s_is_table_line) fl_is_table_line fc_is_table_line fk_is_table_line
  b_is_table_line := (fun_mk (st := s_is_table_line) fl_is_table_line fc_is_table_line fk_is_table_line).binds (ps := p_is_table_line) fun _ _ _ _ _ _ us hl => match us, hl with | [_], _ => rfl
  g_is_table_line := PySem.W.mg_of X G fa_is_table_line
  tn_are_rows := tn_are_rows
  c_are_rows := c_are_rows
  P_are_rows := P_are_rows
  t_are_rows := rfl
  tb_are_rows := L2.Gq.tabIn_of fa_are_rows fl_are_rows rfl tk_are_rows tp_are_rows
  a_are_rows := f_are_rows
  fd_are_rows := _
  F_are_rows := fun_mk (st := s_are_rows) fl_are_rows fc_are_rows fk_are_rows
  b_are_rows := (fun_mk (st := s_are_rows) fl_are_rows fc_are_rows fk_are_rows).binds (ps := p_are_rows) fun _ _ _ _ _ _ us hl => match us, hl with | [_, _], _ => rfl
  g_are_rows := PySem.W.mg_of X G fa_are_rows
  tn_is_row := tn_is_row
  c_is_row := c_is_row
  P_is_row := P_is_row
  t_is_row := rfl
  tb_is_row := L2.Gq.tabIn_of fa_is_row fl_is_row rfl tk_is_row tp_is_row
  a_is_row := f_is_row
  fd_is_row := _
  F_is_row := fun_mk (st := s_is_row) fl_is_row fc_is_row fk_is_row
  b_is_row := (fun_mk (st := s_is_row) fl_is_row fc_is_row fk_is_row).binds (ps := p_is_row) fun _ _ _ _ _ _ us hl => match us, hl with | [_, _], _ => rfl
  g_is_row := PySem.W.mg_of X G fa_is_row
  a_is_integer := f_is_integer
  fd_is_integer := _
  F_is_integer := fun_mk (st := s_is_integer) fl_is_integer fc_is_integer fk_is_integer
  b_is_integer := (fun_mk (st := s_is_integer) fl_is_integer fc_is_integer fk_is_integer).binds (ps := p_is_integer) fun _ _ _ _ _ _ us hl => match us, hl with | [_], _ => rfl
  g_is_integer := PySem.W.mg_of X G fa_is_integer
  a_begun_pen := f_begun_pen
  fd_begun_pen := _
  F_begun_pen := fun_mk (st := s_begun_pen) fl_begun_pen fc_begun_pen fk_begun_pen
  b_begun_pen := (fun_mk (st := s_begun_pen) fl_begun_pen fc_begun_pen fk_begun_pen).binds (ps := p_begun_pen) fun _ _ _ _ _ _ us hl => match us, hl with | [_], _ => rfl
  g_begun_pen := PySem.W.mg_of X G fa_begun_pen
  a_draw := f_draw
  fd_draw := _
  F_draw := fun_mk (st := s_draw) fl_draw fc_draw fk_draw
  b_draw := (fun_mk (st := s_draw) fl_draw fc_draw fk_draw).binds (ps := p_draw) fun _ _ _ _ _ _ us hl => match us, hl with | [_, _], _ => rfl
  g_draw := PySem.W.mg_of X G fa_draw
  a_pick := f_pick
  fd_pick := _
  F_pick := fun_mk (st := s_pick) fl_pick fc_pick fk_pick
  b_pick := (fun_mk (st := s_pick) fl_pick fc_pick fk_pick).binds (ps := p_pick) fun _ _ _ _ _ _ us hl => match us, hl with | [_, _], _ => rfl
  g_pick := PySem.W.mg_of X G fa_pick
  a_shuffled := f_shuffled
  fd_shuffled := _
  F_shuffled := fun_mk (st := s_shuffled) fl_shuffled fc_shuffled fk_shuffled
  b_shuffled := (fun_mk (st := s_shuffled) fl_shuffled fc_shuffled fk_shuffled).binds (ps := p_shuffled) fun _ _ _ _ _ _ us hl => match us, hl with | [_, _], _ => rfl
  g_shuffled := PySem.W.mg_of X G fa_shuffled
  a_new_names := f_new_names
  fd_new_names := _
  F_new_names := fun_mk (st := s_new_names) fl_new_names fc_new_names fk_new_names
  b_new_names := (fun_mk (st := s_new_names) fl_new_names fc_new_names fk_new_names).binds (ps := p_new_names) fun _ _ _ _ _ _ us hl => match us, hl with | [_, _], _ => rfl
  g_new_names := PySem.W.mg_of X G fa_new_names
  a_columns := f_columns
  fd_columns := _
  F_columns := fun_mk (st := s_columns) fl_columns fc_columns fk_columns
  b_columns := (fun_mk (st := s_columns) fl_columns fc_columns fk_columns).binds (ps := p_columns) fun _ _ _ _ _ _ us hl => match us, hl with | [_, _], _ => rfl
  g_columns := PySem.W.mg_of X G fa_columns
  a_new_integer := f_new_integer
  fd_new_integer := _
  F_new_integer := fun_mk (st := s_new_integer) fl_new_integer fc_new_integer fk_new_integer
  b_new_integer := (fun_mk (st := s_new_integer) fl_new_integer fc_new_integer fk_new_integer).binds (ps := p_new_integer) fun _ _ _ _ _ _ us hl => match us, hl with | [_], _ => rfl
  g_new_integer := PySem.W.mg_of X G fa_new_integer
  a_new_rows := f_new_rows
  fd_new_rows := _
  F_new_rows := fun_mk (st := s_new_rows) fl_new_rows fc_new_rows fk_new_rows
  b_new_rows := (fun_mk (st := s_new_rows) fl_new_rows fc_new_rows fk_new_rows).binds (ps := p_new_rows) fun _ _ _ _ _ _ us hl => match us, hl with | [_, _, _, _], _ => rfl
  g_new_rows := PySem.W.mg_of X G fa_new_rows
  a_lawkeeps := f_lawkeeps
  fd_lawkeeps := _
  F_lawkeeps := fun_mk (st := s_lawkeeps) fl_lawkeeps fc_lawkeeps fk_lawkeeps
  b_lawkeeps := (fun_mk (st := s_lawkeeps) fl_lawkeeps fc_lawkeeps fk_lawkeeps).binds (ps := p_lawkeeps) fun _ _ _ _ _ _ us hl => match us, hl with | [_, _, _], _ => rfl
  g_lawkeeps := PySem.W.mg_of X G fa_lawkeeps
  a_drawn_tables := f_drawn_tables
  fd_drawn_tables := _
  F_drawn_tables := fun_mk (st := s_drawn_tables) fl_drawn_tables fc_drawn_tables fk_drawn_tables
  b_drawn_tables := (fun_mk (st := s_drawn_tables) fl_drawn_tables fc_drawn_tables fk_drawn_tables).binds (ps := p_drawn_tables) fun _ _ _ _ _ _ us hl => match us, hl with | [_, _], _ => rfl
  g_drawn_tables := PySem.W.mg_of X G fa_drawn_tables
  a_schema_text := f_schema_text
  fd_schema_text := _
  F_schema_text := fun_mk (st := s_schema_text) fl_schema_text fc_schema_text fk_schema_text
  b_schema_text := (fun_mk (st := s_schema_text) fl_schema_text fc_schema_text fk_schema_text).binds (ps := p_schema_text) fun _ _ _ _ _ _ us hl => match us, hl with | [_], _ => rfl
  g_schema_text := PySem.W.mg_of X G fa_schema_text
  a_spot := f_spot
  fd_spot := _
  F_spot := fun_mk (st := s_spot) fl_spot fc_spot fk_spot
  b_spot := (fun_mk (st := s_spot) fl_spot fc_spot fk_spot).binds (ps := p_spot) fun _ _ _ _ _ _ us hl => match us, hl with | [_, _], _ => rfl
  g_spot := PySem.W.mg_of X G fa_spot
  a_new_fact := f_new_fact
  fd_new_fact := _
  F_new_fact := fun_mk (st := s_new_fact) fl_new_fact fc_new_fact fk_new_fact
  b_new_fact := (fun_mk (st := s_new_fact) fl_new_fact fc_new_fact fk_new_fact).binds (ps := p_new_fact) fun _ _ _ _ _ _ us hl => match us, hl with | [_, _], _ => rfl
  g_new_fact := PySem.W.mg_of X G fa_new_fact
  a_new_facts := f_new_facts
  fd_new_facts := _
  F_new_facts := fun_mk (st := s_new_facts) fl_new_facts fc_new_facts fk_new_facts
  b_new_facts := (fun_mk (st := s_new_facts) fl_new_facts fc_new_facts fk_new_facts).binds (ps := p_new_facts) fun _ _ _ _ _ _ us hl => match us, hl with | [_, _, _], _ => rfl
  g_new_facts := PySem.W.mg_of X G fa_new_facts
  a_told_table := f_told_table
  fd_told_table := _
  F_told_table := fun_mk (st := s_told_table) fl_told_table fc_told_table fk_told_table
  b_told_table := (fun_mk (st := s_told_table) fl_told_table fc_told_table fk_told_table).binds (ps := p_told_table) fun _ _ _ _ _ _ us hl => match us, hl with | [_, _], _ => rfl
  g_told_table := PySem.W.mg_of X G fa_told_table
  a_nearly_kept := f_nearly_kept
  fd_nearly_kept := _
  F_nearly_kept := fun_mk (st := s_nearly_kept) fl_nearly_kept fc_nearly_kept fk_nearly_kept
  b_nearly_kept := (fun_mk (st := s_nearly_kept) fl_nearly_kept fc_nearly_kept fk_nearly_kept).binds (ps := p_nearly_kept) fun _ _ _ _ _ _ us hl => match us, hl with | [_, _, _], _ => rfl
  g_nearly_kept := PySem.W.mg_of X G fa_nearly_kept
  a_refusals_right := f_refusals_right
  fd_refusals_right := _
  F_refusals_right := fun_mk (st := s_refusals_right) fl_refusals_right fc_refusals_right fk_refusals_right
  b_refusals_right := (fun_mk (st := s_refusals_right) fl_refusals_right fc_refusals_right fk_refusals_right).binds (ps := p_refusals_right) fun _ _ _ _ _ _ us hl => match us, hl with | [_, _, _, _], _ => rfl
  g_refusals_right := PySem.W.mg_of X G fa_refusals_right
  a_law := f_law
  fd_law := _
  F_law := fun_mk (st := s_law) fl_law fc_law fk_law
  b_law := (fun_mk (st := s_law) fl_law fc_law fk_law).binds (ps := p_law) fun _ _ _ _ _ _ us hl => match us, hl with | [_], _ => rfl
  g_law := PySem.W.mg_of X G fa_law
theorem tabs_in {K : PySem.W.Frag} {mg : Str → Option Value} (T : TX K mg) {b : Addr} : b ∈ tabsOf T ↔ b = T.P_is_name ∨ b = T.P_leads_back ∨ b = T.P_is_table_line ∨ b = T.P_are_rows ∨ b = T.P_is_row := by
  unfold tabsOf
  simp only [List.mem_cons, List.not_mem_nil, or_false]
/-- what the top has left of the tables -/
structure TT {K : PySem.W.Frag} {mg : Str → Option Value} (T : TX K mg) (q : Program) : Prop where
  r_is_name : ∃ d, (recsOf q).find? (fun e => e.name == ("is_name" : Str)) = some d
  r_leads_back : ∃ d, (recsOf q).find? (fun e => e.name == ("leads_back" : Str)) = some d
  r_is_table_line : ∃ d, (recsOf q).find? (fun e => e.name == ("is_table_line" : Str)) = some d
  r_are_rows : ∃ d, (recsOf q).find? (fun e => e.name == ("are_rows" : Str)) = some d
  r_is_row : ∃ d, (recsOf q).find? (fun e => e.name == ("is_row" : Str)) = some d
theorem walk {l : PySem.W.OpenLaw} {q : Program} {loose : List Str} {XP : (Str → Option Value) → Heap → Prop} {YP : World → Heap → Prop} {d : DefRec} {K : Params → PySem.W.Frag} (hn : l.most = some 63) (hdf : d.params.defaults = []) (hnm : d.name = "law") (hr : Room 10 callerA)
    (hY : ∀ (w : World) (h : Heap), YP w h → (K w.params).In h) (F : ∀ (w : World) (mg : Str → Option Value) (h : Heap), (K w.params).In h → h.Ns mainGlobals mg → ∃ T : TX (K w.params) mg, TT T q ∧ ∀ (s : Shared) (u : Value), BindsTo s T.fd_law ⟨[u], []⟩ [("_law_script", u)]) :
    PySem.W.WalkO q loose XP YP l.row.toRowW d [] (fun f vs => PySem.call f vs) := by
  refine L2.Gq.walk_tabs (n := 63) (k := 10) (x := "_law_script") hn (by decide) hdf hr hY fun w s₀ mg mb fa h G KX e => ?_
  obtain ⟨T, Y, hb⟩ := F w mg h KX G.T.g
  have z := e.symm.trans (hnm ▸ T.g_law)
  cases z
  obtain ⟨d_is_name, e_is_name⟩ := Y.r_is_name
  obtain ⟨u_is_name, v_is_name⟩ := PySem.W.tab_of G.T KX e_is_name T.tb_is_name
  obtain ⟨d_leads_back, e_leads_back⟩ := Y.r_leads_back
  obtain ⟨u_leads_back, v_leads_back⟩ := PySem.W.tab_of G.T KX e_leads_back T.tb_leads_back
  obtain ⟨d_is_table_line, e_is_table_line⟩ := Y.r_is_table_line
  obtain ⟨u_is_table_line, v_is_table_line⟩ := PySem.W.tab_of G.T KX e_is_table_line T.tb_is_table_line
  obtain ⟨d_are_rows, e_are_rows⟩ := Y.r_are_rows
  obtain ⟨u_are_rows, v_are_rows⟩ := PySem.W.tab_of G.T KX e_are_rows T.tb_are_rows
  obtain ⟨d_is_row, e_is_row⟩ := Y.r_is_row
  obtain ⟨u_is_row, v_is_row⟩ := PySem.W.tab_of G.T KX e_is_row T.tb_is_row
  refine ⟨T.fd_law, [(T.c_is_name, T.P_is_name), (T.c_leads_back, T.P_leads_back), (T.c_is_table_line, T.P_is_table_line), (T.c_are_rows, T.P_are_rows), (T.c_is_row, T.P_is_row)], _, fun p hp => by
    simp only [List.mem_cons, List.not_mem_nil, or_false] at hp
    rcases hp with rfl | rfl | rfl | rfl | rfl
    · exact v_is_name
    · exact v_leads_back
    · exact v_is_table_line
    · exact v_are_rows
    · exact v_is_row, fun p hp => by
    simp only [List.mem_cons, List.not_mem_nil, or_false] at hp
    rcases hp with rfl | rfl | rfl | rfl | rfl
    · exact T.tn_is_name
    · exact T.tn_leads_back
    · exact T.tn_is_table_line
    · exact T.tn_are_rows
    · exact T.tn_is_row, fun p hp => by
    simp only [List.mem_cons, List.not_mem_nil, or_false] at hp
    rcases hp with rfl | rfl | rfl | rfl | rfl
    · exact u_is_name
    · exact u_leads_back
    · exact u_is_table_line
    · exact u_are_rows
    · exact u_is_row, hb, fun H a ns hl _ hH hS => ?_, fun base _ _ hB => L2.Gq.fn_tabs (tabsOf T) (ok_law T ⟨hB (T.c_is_name, T.P_is_name) (by simp), hB (T.c_leads_back, T.P_leads_back) (by simp), hB (T.c_is_table_line, T.P_is_table_line) (by simp), hB (T.c_are_rows, T.P_are_rows) (by simp), hB (T.c_is_row, T.P_is_row) (by simp)⟩)⟩
  have hL : ∀ b ∈ tabsOf T, H b = some (.tbl #[]) := fun b hb => by
    rcases (tabs_in T).mp hb with rfl | rfl | rfl | rfl | rfl
    · exact hH (T.c_is_name, T.P_is_name) (by simp)
    · exact hH (T.c_leads_back, T.P_leads_back) (by simp)
    · exact hH (T.c_is_table_line, T.P_is_table_line) (by simp)
    · exact hH (T.c_are_rows, T.P_are_rows) (by simp)
    · exact hH (T.c_is_row, T.P_is_row) (by simp)
  refine ⟨hL, sp_law_ask T hl (fun b hb => L2.Gq.tabH_in hb) ?_⟩
  have hS2 : ∀ o, H a = some o → (∀ ps, o ≠ .tbl ps) → L2.Gq.tabH (tabsOf T) H a = some o := fun o e no => by
    rw [L2.Gq.tabH_out (fun z => by rw [hL a z] at e; cases e; exact no _ rfl)]
    exact e
  rcases hS with (h | ⟨o, h⟩) | h
  · exact .inl (.inl (hS2 _ h fun _ z => by cases z))
  · exact .inl (.inr ⟨o, hS2 _ h fun _ z => by cases z⟩)
  · exact .inr h
end L2.Pf
open PySem PySem.W PyProof.Rows in
set_option maxRecDepth 100000 in
set_option maxHeartbeats 0 in
theorem PySem.Challenge.cw_lookuploops_k12_facts_kept_holds : PySem.Challenge.rw_lookuploops_k12_facts_kept.Holds := by
  w_on; o_law; k_head; (case hw => w_witness2)
  k_fill
  refine L2.Pf.walk (l := PySem.Challenge.rw_lookuploops_k12_facts_kept) rfl rfl rfl ⟨rfl, by decide, by decide⟩ (fun w h Y => PySem.W.kIn_of Y) ?F
  case F =>
    intro w mg h KX G
    refine' ⟨L2.Pf.mk_TX KX G ?z_all ?z_len ?z_enumerate ?z_any ?z_sorted ?z_set ?z_property ?z_list ?z_iter ?z_tuple ?z_isinstance ?z_int ?z_bool ?z_abs ?z_range ?z_dict ?c_LETTERS ?c_LONGEST_NAME ?c_RESERVED ?v_RESERVED ?c_OF_TABLES ?v_OF_TABLES ?c_OF_COLUMNS ?v_OF_COLUMNS ?c_MOST_TABLES ?c_MOST_COLUMNS ?gn ?gt ?xa_LookError ?xl_LookError ?xs_LookError ?xg_LookError ?xt_LookError ?xc_LookError ?xk_LookError ?xe_LookError ?xa_BadTables ?xl_BadTables ?xs_BadTables ?xg_BadTables ?xt_BadTables ?xc_BadTables ?xk_BadTables ?xa_BadFact ?xl_BadFact ?xs_BadFact ?xg_BadFact ?xt_BadFact ?xc_BadFact ?xk_BadFact ?xa_BadProgram ?xl_BadProgram ?xs_BadProgram ?xg_BadProgram ?xt_BadProgram ?xc_BadProgram ?xk_BadProgram ?xa_OtherTables ?xl_OtherTables ?xs_OtherTables ?xg_OtherTables ?xt_OtherTables ?xc_OtherTables ?xk_OtherTables ?xe_OtherTables ?xa_NoName ?xl_NoName ?xs_NoName ?xg_NoName ?xt_NoName ?xc_NoName ?xk_NoName ?ca_Facts ?pg_Facts ?hd_Facts ?po_Facts ?sa_Facts ?ma_Facts ?kc_Facts ?nf_Facts__schema ?nf_Facts__facts ?ca_Schema ?pg_Schema ?hd_Schema ?po_Schema ?sa_Schema ?ma_Schema ?kc_Schema ?nf_Schema__columns ?nf_Schema_tables ?fa_wall ?fl_wall ?fc_wall ?fk_wall ?fa_BadTables_init ?fl_BadTables_init ?fc_BadTables_init ?fk_BadTables_init ?ft_BadTables_init ?fn_BadTables_init_table ?fa_BadFact_init ?fl_BadFact_init ?fc_BadFact_init ?fk_BadFact_init ?ft_BadFact_init ?fn_BadFact_init_index ?fa_BadProgram_init ?fl_BadProgram_init ?fc_BadProgram_init ?fk_BadProgram_init ?ft_BadProgram_init ?fn_BadProgram_init_line ?fa_NoName_init ?fl_NoName_init ?fc_NoName_init ?fk_NoName_init ?ft_NoName_init ?fn_NoName_init_name ?fa_reached ?fl_reached ?fc_reached ?fk_reached ?fa_lines_of ?fl_lines_of ?fc_lines_of ?fk_lines_of ?fa_words_of ?fl_words_of ?fc_words_of ?fk_words_of ?fa_is_name ?fl_is_name ?fc_is_name ?fk_is_name ?tk_is_name ?tp_is_name ?tn_is_name ?fa_read_facts ?fl_read_facts ?fc_read_facts ?fk_read_facts ?fa_read_fact ?fl_read_fact ?fc_read_fact ?fk_read_fact ?fa_read_table ?fl_read_table ?fc_read_table ?fk_read_table ?fa_read_column ?fl_read_column ?fc_read_column ?fk_read_column ?fa_leads_back ?fl_leads_back ?fc_leads_back ?fk_leads_back ?tk_leads_back ?tp_leads_back ?tn_leads_back ?fa_column_links ?fl_column_links ?fc_column_links ?fk_column_links ?fa_table_links ?fl_table_links ?fc_table_links ?fk_table_links ?fa_keeps ?fl_keeps ?fc_keeps ?fk_keeps ?fa_column_values ?fl_column_values ?fc_column_values ?fk_column_values ?fa_are_among ?fl_are_among ?fc_are_among ?fk_are_among ?fa_Facts_init ?fl_Facts_init ?fc_Facts_init ?fk_Facts_init ?fi_Facts_init ?pa_Facts_lines ?pq_Facts_lines ?pt_Facts_lines ?pv_Facts_lines ?fl_Facts_lines ?fc_Facts_lines ?fk_Facts_lines ?fa_Facts_iter ?fl_Facts_iter ?fc_Facts_iter ?fk_Facts_iter ?fi_Facts_iter ?fa_Facts_contains ?fl_Facts_contains ?fc_Facts_contains ?fk_Facts_contains ?fi_Facts_contains ?fa_Facts_or ?fl_Facts_or ?fc_Facts_or ?fk_Facts_or ?fi_Facts_or ?fa_Facts_broken ?fl_Facts_broken ?fc_Facts_broken ?fk_Facts_broken ?fi_Facts_broken ?fa_Facts_are_over ?fl_Facts_are_over ?fc_Facts_are_over ?fk_Facts_are_over ?fi_Facts_are_over ?fa_Facts_as_read ?fl_Facts_as_read ?fc_Facts_as_read ?fk_Facts_as_read ?fi_Facts_as_read ?fa_Facts_implies ?fl_Facts_implies ?fc_Facts_implies ?fk_Facts_implies ?fi_Facts_implies ?fa_Schema_init ?fl_Schema_init ?fc_Schema_init ?fk_Schema_init ?fi_Schema_init ?fa_Schema_columns ?fl_Schema_columns ?fc_Schema_columns ?fk_Schema_columns ?fi_Schema_columns ?fa_Schema_fits ?fl_Schema_fits ?fc_Schema_fits ?fk_Schema_fits ?fi_Schema_fits ?fa_Schema_check ?fl_Schema_check ?fc_Schema_check ?fk_Schema_check ?fi_Schema_check ?fa_declared_tables ?fl_declared_tables ?fc_declared_tables ?fk_declared_tables ?fa_is_table_line ?fl_is_table_line ?fc_is_table_line ?fk_is_table_line ?tk_is_table_line ?tp_is_table_line ?tn_is_table_line ?fa_are_rows ?fl_are_rows ?fc_are_rows ?fk_are_rows ?tk_are_rows ?tp_are_rows ?tn_are_rows ?fa_is_row ?fl_is_row ?fc_is_row ?fk_is_row ?tk_is_row ?tp_is_row ?tn_is_row ?fa_is_integer ?fl_is_integer ?fc_is_integer ?fk_is_integer ?fa_begun_pen ?fl_begun_pen ?fc_begun_pen ?fk_begun_pen ?fa_draw ?fl_draw ?fc_draw ?fk_draw ?fa_pick ?fl_pick ?fc_pick ?fk_pick ?fa_shuffled ?fl_shuffled ?fc_shuffled ?fk_shuffled ?fa_new_names ?fl_new_names ?fc_new_names ?fk_new_names ?fa_columns ?fl_columns ?fc_columns ?fk_columns ?fa_new_integer ?fl_new_integer ?fc_new_integer ?fk_new_integer ?fa_new_rows ?fl_new_rows ?fc_new_rows ?fk_new_rows ?fa_lawkeeps ?fl_lawkeeps ?fc_lawkeeps ?fk_lawkeeps ?fa_drawn_tables ?fl_drawn_tables ?fc_drawn_tables ?fk_drawn_tables ?fa_schema_text ?fl_schema_text ?fc_schema_text ?fk_schema_text ?fa_spot ?fl_spot ?fc_spot ?fk_spot ?fa_new_fact ?fl_new_fact ?fc_new_fact ?fk_new_fact ?fa_new_facts ?fl_new_facts ?fc_new_facts ?fk_new_facts ?fa_told_table ?fl_told_table ?fc_told_table ?fk_told_table ?fa_nearly_kept ?fl_nearly_kept ?fc_nearly_kept ?fk_nearly_kept ?fa_refusals_right ?fl_refusals_right ?fc_refusals_right ?fk_refusals_right ?fa_law ?fl_law ?fc_law ?fk_law, ⟨?tr_is_name, ?tr_leads_back, ?tr_is_table_line, ?tr_are_rows, ?tr_is_row⟩, fun s v => .of_eq rfl⟩
    (case z_all => k_is)
    (case z_len => k_is)
    (case z_enumerate => k_is)
    (case z_any => k_is)
    (case z_sorted => k_is)
    (case z_set => k_is)
    (case z_property => k_is)
    (case z_list => k_is)
    (case z_iter => k_is)
    (case z_tuple => k_is)
    (case z_isinstance => k_is)
    (case z_int => k_is)
    (case z_bool => k_is)
    (case z_abs => k_is)
    (case z_range => k_is)
    (case z_dict => k_is)
    (case c_LETTERS => k_is)
    (case c_LONGEST_NAME => k_is)
    (case c_RESERVED => k_is)
    (case v_RESERVED => k_is)
    (case c_OF_TABLES => k_is)
    (case v_OF_TABLES => k_is)
    (case c_OF_COLUMNS => k_is)
    (case v_OF_COLUMNS => k_is)
    (case c_MOST_TABLES => k_is)
    (case c_MOST_COLUMNS => k_is)
    (case gn => k_is)
    (case gt => k_is)
    (case xa_LookError => k_is)
    (case xl_LookError => k_is)
    (case xs_LookError => k_is)
    (case xg_LookError => k_is)
    (case xt_LookError => k_is)
    (case xc_LookError => k_is)
    (case xk_LookError => k_is)
    (case xe_LookError => k_exc)
    (case xa_BadTables => k_is)
    (case xl_BadTables => k_is)
    (case xs_BadTables => k_is)
    (case xg_BadTables => k_is)
    (case xt_BadTables => k_is)
    (case xc_BadTables => k_is)
    (case xk_BadTables => k_is)
    (case xa_BadFact => k_is)
    (case xl_BadFact => k_is)
    (case xs_BadFact => k_is)
    (case xg_BadFact => k_is)
    (case xt_BadFact => k_is)
    (case xc_BadFact => k_is)
    (case xk_BadFact => k_is)
    (case xa_BadProgram => k_is)
    (case xl_BadProgram => k_is)
    (case xs_BadProgram => k_is)
    (case xg_BadProgram => k_is)
    (case xt_BadProgram => k_is)
    (case xc_BadProgram => k_is)
    (case xk_BadProgram => k_is)
    (case xa_OtherTables => k_is)
    (case xl_OtherTables => k_is)
    (case xs_OtherTables => k_is)
    (case xg_OtherTables => k_is)
    (case xt_OtherTables => k_is)
    (case xc_OtherTables => k_is)
    (case xk_OtherTables => k_is)
    (case xe_OtherTables => k_exc)
    (case xa_NoName => k_is)
    (case xl_NoName => k_is)
    (case xs_NoName => k_is)
    (case xg_NoName => k_is)
    (case xt_NoName => k_is)
    (case xc_NoName => k_is)
    (case xk_NoName => k_is)
    (case ca_Facts => k_is)
    (case pg_Facts => k_is)
    (case hd_Facts => k_is)
    (case po_Facts => k_is)
    (case sa_Facts => k_is)
    (case ma_Facts => k_is)
    (case kc_Facts => k_is)
    (case nf_Facts__schema => k_is)
    (case nf_Facts__facts => k_is)
    (case ca_Schema => k_is)
    (case pg_Schema => k_is)
    (case hd_Schema => k_is)
    (case po_Schema => k_is)
    (case sa_Schema => k_is)
    (case ma_Schema => k_is)
    (case kc_Schema => k_is)
    (case nf_Schema__columns => k_is)
    (case nf_Schema_tables => k_is)
    (case fa_wall => k_is)
    (case fl_wall => k_is)
    (case fc_wall => k_is)
    (case fk_wall => k_is)
    (case fa_BadTables_init => k_is)
    (case fl_BadTables_init => k_is)
    (case fc_BadTables_init => k_is)
    (case fk_BadTables_init => k_is)
    (case ft_BadTables_init => k_is)
    (case fn_BadTables_init_table => k_is)
    (case fa_BadFact_init => k_is)
    (case fl_BadFact_init => k_is)
    (case fc_BadFact_init => k_is)
    (case fk_BadFact_init => k_is)
    (case ft_BadFact_init => k_is)
    (case fn_BadFact_init_index => k_is)
    (case fa_BadProgram_init => k_is)
    (case fl_BadProgram_init => k_is)
    (case fc_BadProgram_init => k_is)
    (case fk_BadProgram_init => k_is)
    (case ft_BadProgram_init => k_is)
    (case fn_BadProgram_init_line => k_is)
    (case fa_NoName_init => k_is)
    (case fl_NoName_init => k_is)
    (case fc_NoName_init => k_is)
    (case fk_NoName_init => k_is)
    (case ft_NoName_init => k_is)
    (case fn_NoName_init_name => k_is)
    (case fa_reached => k_is)
    (case fl_reached => k_is)
    (case fc_reached => k_is)
    (case fk_reached => k_is)
    (case fa_lines_of => k_is)
    (case fl_lines_of => k_is)
    (case fc_lines_of => k_is)
    (case fk_lines_of => k_is)
    (case fa_words_of => k_is)
    (case fl_words_of => k_is)
    (case fc_words_of => k_is)
    (case fk_words_of => k_is)
    (case fa_is_name => k_is)
    (case fl_is_name => k_is)
    (case fc_is_name => k_is)
    (case fk_is_name => k_is)
    (case tk_is_name => k_is)
    (case tp_is_name => exact rfl)
    (case tn_is_name => first | kernel_rfl | exact rfl | decide +kernel)
    (case fa_read_facts => k_is)
    (case fl_read_facts => k_is)
    (case fc_read_facts => k_is)
    (case fk_read_facts => k_is)
    (case fa_read_fact => k_is)
    (case fl_read_fact => k_is)
    (case fc_read_fact => k_is)
    (case fk_read_fact => k_is)
    (case fa_read_table => k_is)
    (case fl_read_table => k_is)
    (case fc_read_table => k_is)
    (case fk_read_table => k_is)
    (case fa_read_column => k_is)
    (case fl_read_column => k_is)
    (case fc_read_column => k_is)
    (case fk_read_column => k_is)
    (case fa_leads_back => k_is)
    (case fl_leads_back => k_is)
    (case fc_leads_back => k_is)
    (case fk_leads_back => k_is)
    (case tk_leads_back => k_is)
    (case tp_leads_back => exact rfl)
    (case tn_leads_back => first | kernel_rfl | exact rfl | decide +kernel)
    (case fa_column_links => k_is)
    (case fl_column_links => k_is)
    (case fc_column_links => k_is)
    (case fk_column_links => k_is)
    (case fa_table_links => k_is)
    (case fl_table_links => k_is)
    (case fc_table_links => k_is)
    (case fk_table_links => k_is)
    (case fa_keeps => k_is)
    (case fl_keeps => k_is)
    (case fc_keeps => k_is)
    (case fk_keeps => k_is)
    (case fa_column_values => k_is)
    (case fl_column_values => k_is)
    (case fc_column_values => k_is)
    (case fk_column_values => k_is)
    (case fa_are_among => k_is)
    (case fl_are_among => k_is)
    (case fc_are_among => k_is)
    (case fk_are_among => k_is)
    (case fa_Facts_init => k_is)
    (case fl_Facts_init => k_is)
    (case fc_Facts_init => k_is)
    (case fk_Facts_init => k_is)
    (case fi_Facts_init => k_is)
    (case pa_Facts_lines => k_is)
    (case pq_Facts_lines => k_is)
    (case pt_Facts_lines => k_is)
    (case pv_Facts_lines => k_is)
    (case fl_Facts_lines => k_is)
    (case fc_Facts_lines => k_is)
    (case fk_Facts_lines => k_is)
    (case fa_Facts_iter => k_is)
    (case fl_Facts_iter => k_is)
    (case fc_Facts_iter => k_is)
    (case fk_Facts_iter => k_is)
    (case fi_Facts_iter => k_is)
    (case fa_Facts_contains => k_is)
    (case fl_Facts_contains => k_is)
    (case fc_Facts_contains => k_is)
    (case fk_Facts_contains => k_is)
    (case fi_Facts_contains => k_is)
    (case fa_Facts_or => k_is)
    (case fl_Facts_or => k_is)
    (case fc_Facts_or => k_is)
    (case fk_Facts_or => k_is)
    (case fi_Facts_or => k_is)
    (case fa_Facts_broken => k_is)
    (case fl_Facts_broken => k_is)
    (case fc_Facts_broken => k_is)
    (case fk_Facts_broken => k_is)
    (case fi_Facts_broken => k_is)
    (case fa_Facts_are_over => k_is)
    (case fl_Facts_are_over => k_is)
    (case fc_Facts_are_over => k_is)
    (case fk_Facts_are_over => k_is)
    (case fi_Facts_are_over => k_is)
    (case fa_Facts_as_read => k_is)
    (case fl_Facts_as_read => k_is)
    (case fc_Facts_as_read => k_is)
    (case fk_Facts_as_read => k_is)
    (case fi_Facts_as_read => k_is)
    (case fa_Facts_implies => k_is)
    (case fl_Facts_implies => k_is)
    (case fc_Facts_implies => k_is)
    (case fk_Facts_implies => k_is)
    (case fi_Facts_implies => k_is)
    (case fa_Schema_init => k_is)
    (case fl_Schema_init => k_is)
    (case fc_Schema_init => k_is)
    (case fk_Schema_init => k_is)
    (case fi_Schema_init => k_is)
    (case fa_Schema_columns => k_is)
    (case fl_Schema_columns => k_is)
    (case fc_Schema_columns => k_is)
    (case fk_Schema_columns => k_is)
    (case fi_Schema_columns => k_is)
    (case fa_Schema_fits => k_is)
    (case fl_Schema_fits => k_is)
    (case fc_Schema_fits => k_is)
    (case fk_Schema_fits => k_is)
    (case fi_Schema_fits => k_is)
    (case fa_Schema_check => k_is)
    (case fl_Schema_check => k_is)
    (case fc_Schema_check => k_is)
    (case fk_Schema_check => k_is)
    (case fi_Schema_check => k_is)
    (case fa_declared_tables => k_is)
    (case fl_declared_tables => k_is)
    (case fc_declared_tables => k_is)
    (case fk_declared_tables => k_is)
    (case fa_is_table_line => k_is)
    (case fl_is_table_line => k_is)
    (case fc_is_table_line => k_is)
    (case fk_is_table_line => k_is)
    (case tk_is_table_line => k_is)
    (case tp_is_table_line => exact rfl)
    (case tn_is_table_line => first | kernel_rfl | exact rfl | decide +kernel)
    (case fa_are_rows => k_is)
    (case fl_are_rows => k_is)
    (case fc_are_rows => k_is)
    (case fk_are_rows => k_is)
    (case tk_are_rows => k_is)
    (case tp_are_rows => exact rfl)
    (case tn_are_rows => first | kernel_rfl | exact rfl | decide +kernel)
    (case fa_is_row => k_is)
    (case fl_is_row => k_is)
    (case fc_is_row => k_is)
    (case fk_is_row => k_is)
    (case tk_is_row => k_is)
    (case tp_is_row => exact rfl)
    (case tn_is_row => first | kernel_rfl | exact rfl | decide +kernel)
    (case fa_is_integer => k_is)
    (case fl_is_integer => k_is)
    (case fc_is_integer => k_is)
    (case fk_is_integer => k_is)
    (case fa_begun_pen => k_is)
    (case fl_begun_pen => k_is)
    (case fc_begun_pen => k_is)
    (case fk_begun_pen => k_is)
    (case fa_draw => k_is)
    (case fl_draw => k_is)
    (case fc_draw => k_is)
    (case fk_draw => k_is)
    (case fa_pick => k_is)
    (case fl_pick => k_is)
    (case fc_pick => k_is)
    (case fk_pick => k_is)
    (case fa_shuffled => k_is)
    (case fl_shuffled => k_is)
    (case fc_shuffled => k_is)
    (case fk_shuffled => k_is)
    (case fa_new_names => k_is)
    (case fl_new_names => k_is)
    (case fc_new_names => k_is)
    (case fk_new_names => k_is)
    (case fa_columns => k_is)
    (case fl_columns => k_is)
    (case fc_columns => k_is)
    (case fk_columns => k_is)
    (case fa_new_integer => k_is)
    (case fl_new_integer => k_is)
    (case fc_new_integer => k_is)
    (case fk_new_integer => k_is)
    (case fa_new_rows => k_is)
    (case fl_new_rows => k_is)
    (case fc_new_rows => k_is)
    (case fk_new_rows => k_is)
    (case fa_lawkeeps => k_is)
    (case fl_lawkeeps => k_is)
    (case fc_lawkeeps => k_is)
    (case fk_lawkeeps => k_is)
    (case fa_drawn_tables => k_is)
    (case fl_drawn_tables => k_is)
    (case fc_drawn_tables => k_is)
    (case fk_drawn_tables => k_is)
    (case fa_schema_text => k_is)
    (case fl_schema_text => k_is)
    (case fc_schema_text => k_is)
    (case fk_schema_text => k_is)
    (case fa_spot => k_is)
    (case fl_spot => k_is)
    (case fc_spot => k_is)
    (case fk_spot => k_is)
    (case fa_new_fact => k_is)
    (case fl_new_fact => k_is)
    (case fc_new_fact => k_is)
    (case fk_new_fact => k_is)
    (case fa_new_facts => k_is)
    (case fl_new_facts => k_is)
    (case fc_new_facts => k_is)
    (case fk_new_facts => k_is)
    (case fa_told_table => k_is)
    (case fl_told_table => k_is)
    (case fc_told_table => k_is)
    (case fk_told_table => k_is)
    (case fa_nearly_kept => k_is)
    (case fl_nearly_kept => k_is)
    (case fc_nearly_kept => k_is)
    (case fk_nearly_kept => k_is)
    (case fa_refusals_right => k_is)
    (case fl_refusals_right => k_is)
    (case fc_refusals_right => k_is)
    (case fk_refusals_right => k_is)
    (case fa_law => k_is)
    (case fl_law => k_is)
    (case fc_law => k_is)
    (case fk_law => k_is)
    (case tr_is_name => exact ⟨_, rfl⟩)
    (case tr_leads_back => exact ⟨_, rfl⟩)
    (case tr_is_table_line => exact ⟨_, rfl⟩)
    (case tr_are_rows => exact ⟨_, rfl⟩)
    (case tr_is_row => exact ⟨_, rfl⟩)

