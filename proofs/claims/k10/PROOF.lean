import PyProof.Rows.All
import Wide.All
import OpenK.AllK
import Wide.FinOn
import HandS.ForMost
import HandS.Exc
import HandS.Walk
import HandS.Comp
import HandS.Style
import HandS.Deep
import HandS.DictComp
import HandS.SetKeys
import HandS.TupLen
import HandS.TupAny
import HandS.IsInst
import HandS.Sort
import HandS.SortRule
import HandS.DictTup
import HandS.Conv
import HandS.WideBits
import KE.GoesEnum
import KE.GoesZip
import KE.GoesMore
import HandS.SetFor
import HandS.SortKw
import HandS.ExcValue
import KE.KExcIs
import HandS.ExcInit
import PyProof.DictMoreH
import KE.KDictKeyed
import HandS.Strs
import HandS.TupMul
import HandS.SortInts
import KE.SortData
import HandS.Wide
import HandS.TupLe
import HandS.RevTup
import HandS.Text
import HandS.More
import HandS.Iter
import HandS.OwnEq
import HandS.WordsExc
import HandS.Steps
import HandS.NoneIn
import HandS.Rev
import HandS.HeadWalk
import HandS.Words
import HandS.TryMany
import HandS.ExcIs
import HandS.Lambda
import HandS.HeadHook4
import PyProof.ReprRoads
import KE.KxStill
import HandS.ExcOwn
import HandS.TryOnly
import HandS.RaiseMore
import HandS.HeadEnd
import HandS.Head2
import HandS.HeadHook3
import HandS.NestedK
import PySem.Challenge.RW_strangerspost_k10_whole_trees_that_grow
section
set_option Elab.async false
set_option linter.all false
set_option maxRecDepth 100000
set_option maxHeartbeats 4000000
/-! Own exceptions as values: made by an __init__ that is walked as a def, asked by isinstance, their fields read. -/
namespace L2.My
open PySem PySem.Spec PyProof.Rows

/-- the facts of an own exception class, beside OexC -/
structure XC (K : PySem.W.Frag) (C : Addr) : Prop where
  o : OexC K C
  hga : PySem.W.findIn K (.ref C) "__getattribute__" = some (some (.builtin "BaseException.__getattribute__"))
  hgt : PySem.W.findIn K (.ref C) "__getattr__" = some none
  ha : PySem.W.findIn K (.ref C) "__class__" = some (some (.builtin "object.__class__"))
  hn : PySem.W.specialIn K (.builtin "object.__class__") "__get__" = some (some (.builtin "getset_descriptor.__get__"))
  ht : PySem.W.takesIn K (.builtin "object.__class__") = some true
  hm : PySem.W.mroIn K C (.type "object") = some true
  hd : PySem.W.hasDictIn K C = true

/-- C(e, ..): a new exception object, then __init__; it stays tracked -/
def tMkX (C : Addr) (sp : Sp) (dvs : List V) (ta : TA) : TE := fun σ H Q => ta σ H fun vs H1 => vs.length ≤ 1000 ∧ ∀ a, H1 a = none → sp (.ref a :: (vs ++ dvs)) (upd H1 a (exo a C none))
  (fun v H2 => v = .non ∧ Q (.ref a) H2) (fun _ _ _ => False)
section
variable {X : Cx} {CX : CXT} {k : Nat} {fI C : Addr} {fd : FuncData} {ps : List Str} {sp : Sp} {dvs : List V} {ds : List Value} {x : Str} {p pos : Pos} {e : Expr} {es : List Expr} {ta : TA}
theorem run_mkx {pins : List (Addr × Obj)} {σ : St} {H : Hp} {s : Shared} {Q : VK} {us : List Value} {vs : List V} (T : OexC X.K C) (iC : PySem.W.findIn X.K (.ref C) "__init__" = some (some (.ref fI))) (tI : PySem.W.typeIn X.K (.ref fI) = some (.type "function"))
    (F1 : FnOk X.prog X.w X.K X.mg X.base CX k fI fd ps sp) (hr : Room (k + 1) X.A) (hb : Binds X.K fd ps ds) (hd : Vals dvs ds) (hx : Passes CX X (fun _ _ _ => False)) (I : Inv X pins σ H s) (r1 : Vals vs us) (hz : vs.length ≤ 1000)
    (h : ∀ a, H a = none → sp (.ref a :: (vs ++ dvs)) (upd H a (exo a C none)) (fun v H2 => v = .non ∧ Q (.ref a) H2) (fun _ _ _ => False)) :
    wpAny (model X.prog X.w) X.A (call (.ref C) us) (EP X pins σ Q) X.xe s := by
  obtain ⟨nm, q, N, bs, bm, sn, sub, ab, col, dd, k0, k1, k2, k3, k5, hC, hbm⟩ := T.cls
  obtain ⟨hp, g, dr, tk, os⟩ := s
  have hsz : hp.objs.size ≤ hp.objs.size + 1 := Nat.le_succ _
  have hn : H (hp.objs.size + 1) = none := I.hok.fresh hsz
  have hq := h (hp.objs.size + 1) hn
  have kk : ∀ b o, hp.get? b = some o → ((hp.push (PySem.W.kdv_tup us)).push (PySem.HandSPX.excO C hp.objs.size)).get? b = some o := fun b o e => Heap.get?_push_of_some _ (Heap.get?_push_of_some _ e)
  have hget : ((hp.push (PySem.W.kdv_tup us)).push (PySem.HandSPX.excO C hp.objs.size)).get? (hp.objs.size + 1) = some (PySem.HandSPX.excO C hp.objs.size) := by heap_get
  have I2 : Inv X pins σ (upd H (hp.objs.size + 1) (exo (hp.objs.size + 1) C none)) ⟨(hp.push (PySem.W.kdv_tup us)).push (PySem.HandSPX.excO C hp.objs.size), g, dr, tk, os⟩ :=
    I.laid (t' := tk) (a := hp.objs.size + 1) (o := exo (hp.objs.size + 1) C none) (h' := (hp.push (PySem.W.kdv_tup us)).push (PySem.HandSPX.excO C hp.objs.size)) kk hsz (exo_ok hget)
  have r2 : Vals (V.ref (hp.objs.size + 1) :: (vs ++ dvs)) (Value.ref (hp.objs.size + 1) :: (us ++ ds)) := .cons rfl (r1.append hd)
  have hl : (Value.ref (hp.objs.size + 1) :: us ++ ds).length = ps.length := by
    have e := r2.length
    rw [F1.len _ _ _ _ hq] at e
    exact e.symm
  have hus : us.length ≤ sizeLine := by
    rw [← Paired.length r1, sizeLine_eq]
    omega
  refine wpAny_call (PySem.HandSPX.call_own F.excBase_ValueError (fun Y => PySem.HandSPX.refsVE_contains Y bm hbm) (I.kIn _ _ hC) (PySem.W.looks_findIn I.kIn iC) (fun self => PySem.W.bind_fn I.kIn self tI) hus
    (codeAny_mono (F1.run _ X.stack _ _ ⟨Value.ref (hp.objs.size + 1) :: us, []⟩ (Value.ref (hp.objs.size + 1) :: (us ++ ds)) _ _ (fun _ _ _ => False) (hr.make C us []) (I2.env0.make C us []) (hb _ (Value.ref (hp.objs.size + 1) :: us) I2.kIn hl) r2 hq) fun r s' hq' => ?_))
  cases r with
  | error er => exact hx pins σ _ _ er s' I2 hq'
  | ok fl =>
    cases fl with
    | ret u =>
      obtain ⟨v, H', I3, rv, ev, q3⟩ := I2.after hq'
      subst ev
      exact ⟨rv, ⟨V.ref (hp.objs.size + 1), H', I3, rfl, q3⟩⟩
    | next => exact False.elim hq'
    | brk => exact False.elim hq'
    | cont => exact False.elim hq'
theorem pe_mkx (T : OexC X.K C) (iC : PySem.W.findIn X.K (.ref C) "__init__" = some (some (.ref fI))) (tI : PySem.W.typeIn X.K (.ref fI) = some (.type "function"))
    (F1 : FnOk X.prog X.w X.K X.mg X.base CX k fI fd ps sp) (hr : Room (k + 1) X.A) (hb : Binds X.K fd ps ds) (hd : Vals dvs ds) (hx : Passes CX X (fun _ _ _ => False)) (hg : Gl X x) (hm : X.mg x = some (.ref C)) (ha : PA X (e :: es) ta)
    (hdb : (x == ("__debug__" : Str)) = false := by decide) (he : starEach (e :: es) X.env = (false, eval e X.env) :: starEach es X.env := by rfl) (hpl : (backTo pos (starEach es X.env)).any (·.1) = false := by rfl) :
    PE X (.Call (.Name x p) (e :: es) [] pos) (tMkX C sp dvs ta) := by
  refine ⟨fun pins s σ H Q I h => ?_⟩
  refine wpAny_Call_Name_kw (ld_glob I hg hm ?_ hdb)
  refine PySem.W.callWith_K (h₀ := X.base) I.ok.mod.kin T.kC (thn (ha.run pos pins s σ H _ I h) fun us s1 ⟨vs, H1, I1, r1, hz, q1⟩ => ⟨I1.kIn, ?_⟩) he hpl
  exact run_mkx T iC tI F1 hr hb hd hx I1 r1 hz q1
theorem pe_mkx0 (T : OexC X.K C) (iC : PySem.W.findIn X.K (.ref C) "__init__" = some (some (.ref fI))) (tI : PySem.W.typeIn X.K (.ref fI) = some (.type "function"))
    (F1 : FnOk X.prog X.w X.K X.mg X.base CX k fI fd ps sp) (hr : Room (k + 1) X.A) (hb : Binds X.K fd ps ds) (hd : Vals dvs ds) (hx : Passes CX X (fun _ _ _ => False)) (hg : Gl X x) (hm : X.mg x = some (.ref C))
    (hdb : (x == ("__debug__" : Str)) = false := by decide) :
    PE X (.Call (.Name x p) [] [] pos) (tMkX C sp dvs tNil) := by
  refine ⟨fun pins s σ H Q I h => ?_⟩
  refine wpAny_Call_Name_kw (ld_glob I hg hm ?_ hdb)
  exact PySem.W.callWith_K0 I.kIn T.kC (run_mkx (us := []) T iC tI F1 hr hb hd hx I .nil h.1 h.2)
end

/-! ### an exception that stands: with its dict, or with none -/
/-- at a stands an exception of the class at C, its dict (if any) tracked -/
def ErrAt (H : Hp) (a C : Addr) : Prop := ∃ d : Option Addr, H a = some (exo a C d) ∧ ∀ dx, d = some dx → ∃ fs, H dx = some (exd dx fs)
theorem ErrAt.same {H H' : Hp} {a C : Addr} (h : ErrAt H a C) (s : Same H H') : ErrAt H' a C := by
  obtain ⟨d, h1, h2⟩ := h
  exact ⟨d, s _ _ h1, fun dx e => by
    obtain ⟨fs, q⟩ := h2 dx e
    exact ⟨fs, s _ _ q⟩⟩
section
variable {X : Cx} {pins : List (Addr × Obj)} {σ : St} {H : Hp} {s : Shared}
theorem XC.cl {K : PySem.W.Frag} {C : Addr} (T : XC K C) : (PySem.W.clsIn K C).isSome = true := by
  obtain ⟨cd, h, _⟩ := PySem.W.any_some T.hd
  rw [h]
  rfl
theorem ErrAt.inst {a C : Addr} (I : Inv X pins σ H s) (h : ErrAt H a C) : ∃ ox od, PySem.W.InstAt s.heap a ox C od := by
  obtain ⟨d, h1, h2⟩ := h
  obtain ⟨t1, ho⟩ := exo_at I.hok h1
  cases d with
  | none => exact ⟨_, none, ho, rfl, rfl, trivial⟩
  | some dx =>
    obtain ⟨fs, q⟩ := h2 dx rfl
    obtain ⟨mA, ⟨oD, _, _, hoD, _⟩, _⟩ := exd_at I.hok q
    exact ⟨_, some oD, ho, rfl, rfl, hoD⟩
/-- isinstance(e, c) of a standing exception -/
def rIsX (K : PySem.W.Frag) : List V → Hp → VK → Prop := fun xs H Q => ∃ (a C : Addr) (c : V) (u : Value) (b : Bool), xs = [.ref a, c] ∧ ErrAt H a C ∧ XC K C ∧ ClsV c u ∧ PySem.W.kitOne K (.ref C) u = some b ∧ Q (.bl b) H
theorem call_isX : CallR X (.builtin "isinstance") (rIsX X.K) := by
  intro pins s σ H xs us Q I r h
  obtain ⟨a, C, c, u, b, rfl, hE, T, k, e, q⟩ := h
  obtain ⟨u1, u2, rfl, r1, r2⟩ := vals2 r
  have e2 := k.eq r2
  subst e2
  cases (show u1 = Value.ref a from r1)
  obtain ⟨ox, od, J⟩ := hE.inst I
  exact PySem.W.kia_one (PySem.W.kitx_exc T.cl T.hga T.hgt T.o.exC T.ha T.hn T.ht T.hm) I.kIn J e (fun z => nomatch z) fun tk => ⟨.bl b, H, I.tok tk, rfl, q⟩
/-- e.f of a standing exception -/
def tXfv (K : PySem.W.Frag) (f : Str) (te : TE) : TE := fun σ H Q => te σ H fun x H1 => ∃ (a C dx : Addr) (fs : List (Str × V)) (v : V), x = .ref a ∧ XC K C ∧ PySem.W.findIn K (.ref C) f = some none ∧ H1 a = some (exo a C (some dx)) ∧ H1 dx = some (exd dx fs) ∧ fs.lookup f = some v ∧ Q v H1
theorem pe_xfv {e : Expr} {te : TE} {pos : Pos} {n : Str} (he : PE X e te) (hb : attributeBase e n X.env (eval e X.env) = eval e X.env := by rfl) : PE X (.Attribute e n pos) (tXfv X.K n te) := by
  refine ⟨fun pins s σ H Q I h => ?_⟩
  refine attr_of hb (thn (he.run pins s σ H _ I h) fun u s1 hh => ?_)
  obtain ⟨x, H1, I1, rx, a, C, dx, fs, v, ex, T, hno, ea, ed, l, q⟩ := hh
  subst ex
  obtain rfl : u = Value.ref a := rx
  obtain ⟨t1, ho⟩ := exo_at I1.hok ea
  obtain ⟨mA, hns, hr⟩ := exd_at I1.hok ed
  obtain ⟨od, hod, hl⟩ := lookIn_ns hns
  obtain ⟨u, hu, ru⟩ := RelO.some_of (v := v) (o := mA n) (by rw [← l]; exact hr n)
  have J : PySem.W.InstAt s1.heap a _ C (some od) := ⟨ho, rfl, rfl, hod⟩
  exact HandSPX.exc_get I1.kIn J T.hga T.hgt T.o.exC (PySem.W.findObj_own T.hd hno rfl (by rw [hl, hu])) (handed_of ru) ⟨v, H1, I1.tok _, ru, q⟩
end
end L2.My
end
section
set_option Elab.async false
set_option linter.all false
set_option maxRecDepth 100000
set_option maxHeartbeats 4000000
/-! Small rules of our own. -/
namespace L2.My
open PySem PySem.Spec PyProof.Rows
section
variable {X : Cx}
theorem pt_and {a b : Expr} {rest : List Expr} {pos : Pos} {tA tB : TT} (ha : PT X a tA) (hb : PW X (.BoolOp .And (b :: rest) pos) tB) : PT X (.BoolOp .And (a :: b :: rest) pos) (tAnd tA tB) := (pw_and ha hb).pt
theorem pt_or {a b : Expr} {rest : List Expr} {pos : Pos} {tA tB : TT} (ha : PT X a tA) (hb : PW X (.BoolOp .Or (b :: rest) pos) tB) : PT X (.BoolOp .Or (a :: b :: rest) pos) (tOr tA tB) := (pw_or ha hb).pt
theorem op_le_str : OpR X (compareOp .LtE) (fun x y H Q => ∃ i j, x = .str i ∧ y = .str j ∧ Q (.bl (!decide (j.cps.toList < i.cps.toList))) H) := by
  intro pins s σ H x y v u Q I rx ry h
  obtain ⟨i, j, rfl, rfl, q⟩ := h
  obtain ⟨t, rfl⟩ := rx
  obtain ⟨t', rfl⟩ := ry
  exact P.le_str (fin_bl I q (by simp))
/-- d in a tuple of data -/
def rInTD (K : PySem.W.Frag) : R2 := fun x y H Q => ∃ d ds, Dp K H x d ∧ Dp K H y (.tuple ds) ∧ SeqAt.shaped d = true ∧ SeqAt.shaped (.tuple ds) = true ∧ Q (.bl (ds.any fun z => PyData.eqv z d)) H
def rNotInTD (K : PySem.W.Frag) : R2 := fun x y H Q => ∃ d ds, Dp K H x d ∧ Dp K H y (.tuple ds) ∧ SeqAt.shaped d = true ∧ SeqAt.shaped (.tuple ds) = true ∧ Q (.bl (!ds.any fun z => PyData.eqv z d)) H
theorem op_inTD (hu : X.A.units + 65 < cLine) : OpR X (compareOp .In) (rInTD X.K) := by
  intro pins s σ H x y v u Q I rx ry h
  obtain ⟨d, ds, hd, he, sd, se, q⟩ := h
  obtain ⟨as, r1⟩ := Dp.reads I d x v hd rx
  obtain ⟨bs, r2⟩ := Dp.reads I (.tuple ds) y u he ry
  exact SeqAt.in_tuple_reads r2 r1 (SeqAt.canLay_of_shaped se) (SeqAt.canLay_of_shaped sd) (room_in_shaped sd hu) ⟨.bl _, H, I, rfl, q⟩
theorem op_notInTD (hu : X.A.units + 65 < cLine) : OpR X (compareOp .NotIn) (rNotInTD X.K) := by
  intro pins s σ H x y v u Q I rx ry h
  obtain ⟨d, ds, hd, he, sd, se, q⟩ := h
  obtain ⟨as, r1⟩ := Dp.reads I d x v hd rx
  obtain ⟨bs, r2⟩ := Dp.reads I (.tuple ds) y u he ry
  exact SeqAt.notIn_tuple_reads r2 r1 (SeqAt.canLay_of_shaped se) (SeqAt.canLay_of_shaped sd) (room_in_shaped sd hu) ⟨.bl _, H, I, rfl, q⟩
/-- a text, repeated -/
def strRep (z : Str) (n : Nat) : Str := ⟨(List.replicate n z.cps).foldl (· ++ ·) #[]⟩
theorem foldl_app (z : Array Nat) : ∀ (n : Nat) (a : Array Nat), ((List.replicate n z).foldl (· ++ ·) a).size = a.size + z.size * n
  | 0, a => by simp
  | n + 1, a => by
    rw [List.replicate_succ, List.foldl_cons, foldl_app z n, Array.size_append, Nat.mul_succ]
    omega
theorem strRep_len (z : Str) (n : Nat) : (strRep z n).length = z.length * n := by
  show ((List.replicate n z.cps).foldl (· ++ ·) #[]).size = _
  rw [foldl_app]
  show (#[] : Array Nat).size + z.cps.size * n = z.cps.size * n
  simp
theorem op_repS : OpR X (binaryOp .Mult) (fun x y H Q => ∃ z k, x = .str z ∧ y = .int k ∧ 2 ≤ k ∧ k ≤ 1000 ∧ 0 < z.length ∧ z.length ≤ 1000 ∧ Q (.str (strRep z k.toNat)) H) := by
  intro pins s σ H x y v u Q I rx ry h
  obtain ⟨z, k, rfl, rfl, h2, h3, h4, h5, q⟩ := h
  obtain ⟨t, rfl⟩ := rx
  obtain ⟨t', rfl⟩ := ry
  have c1 : ¬ k < 1 := by omega
  have c2 : ¬ ((k == 1 || z.length == 0) = true) := by
    simp
    omega
  refine P.mul_str ?_ (fun _ _ => ?_) (fun _ _ => ?_) ?_
  · simp
    omega
  · have h6 : (1000 : Int) ≤ (2 ^ 63 - 1) / k := by
      apply (Int.le_ediv_iff_mul_le (by omega)).mpr
      omega
    omega
  · have h7 : z.length * k.toNat ≤ 1000 * 1000 := Nat.mul_le_mul h5 (by omega)
    show decide (z.length * k.toNat > sizeLine) = false
    rw [sizeLine_eq]
    exact decide_eq_false (by omega)
  · rw [if_neg c1, if_neg c2]
    refine ⟨?_, .str _, H, I.tok _, ⟨_, rfl⟩, q⟩
    show (strRep z k.toNat).length ≤ sizeLine
    rw [strRep_len, sizeLine_eq]
    have h7 : z.length * k.toNat ≤ 1000 * 1000 := Nat.mul_le_mul h5 (by omega)
    omega
/-- how often True stands in a list of bools -/
def isTrueV (v : Value) : Bool := match v with
  | .bool b => b
  | _ => false
theorem trueV_count : ∀ {us : List Value} {bs : List Bool}, Vals (bs.map V.bl) us → us.countP isTrueV = bs.count true ∧ ∀ y ∈ us, ∃ b, y = Value.bool b
  | us, [], r => by
    cases r
    exact ⟨rfl, fun y hy => by cases hy⟩
  | us, b :: bs, r => by
    cases r with
    | cons r1 rt =>
      obtain ⟨h1, h2⟩ := trueV_count rt
      obtain rfl := (show _ = Value.bool b from r1)
      refine ⟨?_, fun y hy => ?_⟩
      · rw [List.countP_cons, List.count_cons, h1]
        cases b <;> rfl
      · rcases List.mem_cons.mp hy with e | e
        · exact ⟨b, e⟩
        · exact h2 y e
def rCntB (K : PySem.W.Frag) : V → List V → Hp → VK → Prop := fun x xs H Q => ∃ (p : Addr) (bs : List Bool), x = .ref p ∧ xs = [.bl true] ∧ SqL K H p (bs.map V.bl) ∧ Q (.int (bs.count true : Nat)) H
theorem mt_lcountB : MtR X "list.count" (rCntB X.K) := by
  intro pins s σ H x xs v us Q I rx rxs h
  obtain ⟨p, bs, rfl, rfl, hs, q⟩ := h
  cases rx
  obtain ⟨u, rfl, ru⟩ := rxs.one
  cases (show u = Value.bool true from ru)
  obtain ⟨its, rv, ⟨⟨cls, dd, data, sl⟩, n, ho, hc, hdn, hd⟩, hlen⟩ := I.list hs
  simp only at hc hd
  subst hc hd
  obtain ⟨ec, hall⟩ := trueV_count rv
  refine call_meets PySem.F.slot_list_count ⟨_, ho, rfl⟩ PySem.F.entry_list_count (PySem.F.args_list_count_2 _ _)
    (SeqAt.list_countAt p its.toArray n dd sl (.bool true) isTrueV) ⟨ho, fun y hy => ?_, ?_⟩
  · obtain ⟨b, rfl⟩ := hall y (by simpa using hy)
    have z := SeqAt.EqAt.bool_bool (A := X.A.in1) (s := s) b true
    cases b <;> exact z
  · refine ⟨.int (bs.count true : Nat), H, I.tok _, ⟨s.toks, ?_⟩, q⟩
    show Value.int ((its.toArray.toList.countP isTrueV : Nat) : Int) s.toks = Value.int ((bs.count true : Nat) : Int) s.toks
    rw [show its.toArray.toList = its from rfl, ec]
/-- l.extend(t), t a tuple -/
def rExtT (K : PySem.W.Frag) : V → List V → Hp → VK → Prop := fun x vs H Q => ∃ l b xs zs, x = .ref l ∧ vs = [.ref b] ∧ H l = some (.lst xs) ∧ SqT K H b zs ∧ xs.length + zs.length ≤ sizeLine ∧ Q .non (upd H l (.lst (xs ++ zs)))
theorem ext_tup (l : Addr) (items : Array Value) (n : Nat) (b : Addr) (o : Obj) (items2 : Array Value) (n2 : Nat) (ho : o.cls = .type "tuple") (hd : o.data = .seq items2 n2) (hs0 : ¬(!items.isEmpty && Builtin.List.listTooLong (items.size + items2.size)) = true) (hs1 : items.size ≤ sizeLine) (hs2 : items.size + items2.size ≤ sizeLine + 1) :
    Meets (Builtin.«list.extend» ⟨[.ref l, .ref b], []⟩) (fun _ R s => s.heap.get? l = some { cls := .type "list", dict := none, data := .seq items n, slots := #[] } ∧ s.heap.get? b = some o ∧ R (.ok (.ret Value.none)) { s with heap := s.heap.update l (Obj.mapSeq fun x => x ++ items2), toks := s.toks }) :=
  .of_wp fun prog w A R s h => by
    obtain ⟨hp, g, d, tk, os⟩ := s
    obtain ⟨hl, hb, h⟩ := h
    obtain ⟨oc, od, dt, sl⟩ := o
    dsimp only at ho hd
    subst ho hd
    have f2 := sub_tuple_tuple
    have f3 := sub_list_list
    have f4 := sub_tuple_list
    have f5 := sub_list_tuple
    have hz' : (items ++ items2).size ≤ sizeLine + 1 := by
      rw [Array.size_append]
      exact hs2
    wp_walk using (wpAny_updateSeq hl rfl (hz := hs1) (_hz' := hz')), wpAny_loadPart' hl, wpAny_loadPart' hb
    exact ⟨_, rfl, h⟩
theorem mt_extT : MtR X "list.extend" (rExtT X.K) := by
  intro pins s σ H x vs v us Q I rx rv h
  obtain ⟨l, b, xs, zs, rfl, rfl, hH, hB, hz, q⟩ := h
  cases rx
  obtain ⟨u, rfl, ru⟩ := rv.one
  cases ru
  obtain ⟨z, its, n, r, hl, e⟩ := I.lstM hH
  obtain ⟨its2, r2, ⟨o, e2, c2, n2, d2⟩, _⟩ := I.tuple hB
  have hl2 := r2.length
  have hsz : its.toArray.size + its2.toArray.size ≤ sizeLine := by
    rw [List.size_toArray, List.size_toArray]
    omega
  have hlong : ¬ (!its.toArray.isEmpty && Builtin.List.listTooLong (its.toArray.size + its2.toArray.size)) = true := by
    rw [notLongL hsz, Bool.and_false]
    exact Bool.false_ne_true
  refine call_meets F.slot_list_extend ⟨_, e, rfl⟩ F.entry_list_extend (F.args_list_extend_2 _ _)
    (ext_tup l its.toArray n b o its2.toArray n2 c2 d2 hlong (by rw [List.size_toArray]; omega) (by omega)) ⟨e, e2, ?_⟩
  refine ⟨.non, _, I.lset (its' := its ++ its2) hH e (by simp) (r.append r2) ?_, rfl, q⟩
  rw [List.length_append]
  omega
end
end L2.My
end
section
set_option Elab.async false
set_option linter.all false
set_option maxRecDepth 100000
set_option maxHeartbeats 4000000
/-! max of a list of ints with a default. -/
namespace PySem
section
variable {prog : Program} {w : World} {A : Around} {R : Result → Shared → Prop} {I : Addr} {fp wr : List Addr} {n : Nat} {P : Nat → Value → Prop} {St : Nat → Heap → Prop} {kw : List (Str × Value)}
theorem maxKw_turn (W : Walks prog w A.in1 I fp wr n P St) (bt : Nat → Nat → Bool) (hcmp : CmpOf prog w A.in1 .Gt P bt) (S : Addr) (hSf : S ∉ fp) :
    ∀ (k j : Nat) (s : Shared) (vb : Value) (c : Nat), n - (j + 1) = k → j + 1 ≤ n → St (j + 1) s.heap → P (argBest bt j) vb →
      s.heap.get? S = some { cls := .type "list", dict := none, data := .seq #[vb, vb] c, slots := #[] } →
      (∀ v h' tk, P (argBest bt (n - 1)) v → (∀ b o, b ∉ wr → b ≠ S → s.heap.get? b = some o → h'.get? b = some o) → R (.ok (.ret v)) { s with heap := h', toks := tk }) →
      codeAny (model prog w) A (.builtin "max.loop" ⟨[.ref I, .none, .ref S], kw⟩) R s := by
  have away : S ∉ wr := fun h => hSf (W.sub _ h)
  have name : (toString "max" ++ toString ".loop" : String) = "max.loop" := by decide
  intro k
  induction k with
  | zero =>
    intro j s vb c hk hj st pb hS hR
    have last : j + 1 = n := by omega
    refine codeAny_builtin F.entry_max_loop ?_
    rw [Around.under_plainId F.plain_max_loop _]
    refine wpAny_bind (m := seqItems? (.ref S)) (wpAny_seqItems hS rfl ?_)
    refine wpAny_bind (wpAny_tryCatch (W.done s _ _ (last ▸ st) fun h' tk keep => ?_))
    have hS2 := keep S _ away hS
    refine wpAny_bind (m := updateSeq S (fun _ => #[])) ?_
    refine wpAny_updateSeq hS2 rfl (wpAny_bind (wpAny_letGo (wpAny_pure ?_)))
    refine hR vb _ tk (by rw [← last]; exact pb) fun b o n1 n2 e => ?_
    rw [Heap.get?_update_other _ _ (Ne.symm n2)]
    exact keep b o n1 e
  | succ k ih =>
    intro j s vb c hk hj st pb hS hR
    have more : j + 1 < n := by omega
    refine codeAny_builtin F.entry_max_loop ?_
    rw [Around.under_plainId F.plain_max_loop _]
    refine wpAny_bind (m := seqItems? (.ref S)) (wpAny_seqItems hS rfl ?_)
    refine wpAny_bind (wpAny_tryCatch (W.item (j + 1) s _ _ more st fun v h' tk pv st2 keep => ?_))
    have hS2 := keep S _ away hS
    refine wpAny_bind (wpAny_pure ?_)
    refine wpAny_bind (wpAny_tryCatch (wpAny_holding (wpAny_bind (hcmp (j + 1) (argBest bt j) v vb _ _ _ pv pb ?_))))
    refine wpAny_bind (wpAny_holding (wpAny_truthy_bool ?_))
    refine wpAny_bind (wpAny_letGo (wpAny_pure ?_))
    cases hb : bt (j + 1) (argBest bt j) with
    | true =>
      simp only [if_true]
      refine wpAny_bind ?_
      refine wpAny_updateSeq hS2 rfl (wpAny_bind (wpAny_letGo ?_))
      rw [name]
      refine wpAny_pure ⟨plainId_quiet F.plain_max_loop _, ih (j + 1) _ v _ (by omega) more (W.frame _ _ _ st2 fun b hbf o e => ?_) (by simp only [argBest, hb, if_true]; exact pv) (Heap.get?_update_self _ hS2 rfl) fun v' h2 tk2 p2 k2 => ?_⟩
      · rw [Heap.get?_update_other _ _ (fun z : S = b => hSf (by rw [z]; exact hbf))]
        exact e
      · refine hR v' h2 tk2 p2 fun b o n1 n2 e => k2 b o n1 n2 ?_
        rw [Heap.get?_update_other _ _ (Ne.symm n2)]
        exact keep b o n1 e
    | false =>
      simp only [Bool.false_eq_true, if_false]
      refine wpAny_bind (wpAny_letGo ?_)
      rw [name]
      refine wpAny_pure ⟨plainId_quiet F.plain_max_loop _, ih (j + 1) _ vb c (by omega) more st2 (by simp only [argBest, hb, Bool.false_eq_true, if_false]; exact pb) hS2 fun v' h2 tk2 p2 k2 => ?_⟩
      exact hR v' h2 tk2 p2 fun b o n1 n2 e => k2 b o n1 n2 (keep b o n1 e)
end
section
variable {prog : Program} {w : World} {A : Around} {E : Value → Shared → Prop} {s : Shared}
/-- a built-in function called with keywords: its own tree -/
theorem call_kw_tree {id : String} {b : Builtin} {args : List Value} {kw : List (Str × Value)} {Q : Value → Shared → Prop} (hk : builtinKind id = none) (hp : plainId id = true) (hb : entryFor table id = some b) (ha : argsOk id ⟨args, kw⟩)
    (hc : wpAny (model prog w) A.in1 (b ⟨args, kw⟩) (fun fin s' => match fin with
      | .done f => (match (Except.ok f : Result) with | .ok (.ret v) => Q v s' | .ok _ => False | .error e => E e s')
      | .again c' => c'.quiet = true ∧ codeAny (model prog w) A c' (fun r s' => match r with | .ok (.ret v) => Q v s' | .ok _ => False | .error e => E e s') s') E s) :
    wpAny (model prog w) A (call (.builtin id) args kw) Q E s := by
  refine wpAny_call (codeAny_call_builtin hp hb ?_)
  simp only [checkBuiltinCall, hk]
  cases hsig : Manifest.signature? id with
  | none => exact wpAny_pure hc
  | some sig =>
    simp only [argsOk, hsig] at ha
    show wpAny _ A.in1 (Bind.checkArgs id sig ⟨args, kw⟩) _ _ s
    rw [show Bind.checkArgs id sig ⟨args, kw⟩ = pure () from ha]
    exact wpAny_pure hc
theorem args_maxD (a d : Value) : argsOk "max" ⟨[a], [(Str.ofString "default", d)]⟩ := by
  unfold argsOk
  kernel_rfl
theorem bind_maxD (d : Value) : Builtin.Builtins.bindParams "max" ["key", "default"] 0 ⟨[], [(Str.ofString "default", d)]⟩ = pure [none, some d] := by
  kernel_rfl
theorem max_intListD {l : Addr} {xs : Array (Int × Tok)} {d : Value} {Q : Value → Shared → Prop} (hh : A.handled = none) (hl : s.heap.IsList l (intItems xs))
    (h0 : xs.size = 0 → ∀ h' tk, (∀ b o, s.heap.get? b = some o → h'.get? b = some o) → Q d { s with heap := h', toks := tk })
    (h : 0 < xs.size → ∀ v h' tk, (intItems xs)[argBest (fun i j => decide (numAt xs i > numAt xs j)) (xs.size - 1)]? = some v → (∀ b o, s.heap.get? b = some o → h'.get? b = some o) → Q v { s with heap := h', toks := tk }) :
    wpAny (model prog w) A (call (.builtin "max") [.ref l] [(Str.ofString "default", d)]) Q E s := by
  have name : (toString "max" ++ toString ".loop" : String) = "max.loop" := by decide
  refine call_kw_tree F.kind_max F.plain_max F.entry_max (args_maxD _ _) ?_
  refine wpAny_bind (m := Builtin.Builtins.bindParams "max" ["key", "default"] 0 ⟨[], [(Str.ofString "default", d)]⟩) (wpAny_of_eq (bind_maxD d) ?_)
  refine wpAny_bind (wpAny_pure ?_)
  refine wpAny_bind (iter_intList hl fun s₂ e st hfp hlI => ?_)
  subst e
  refine wpAny_bind (wpAny_newObj_type ?_)
  rw [name]
  have W := Walks.list (prog := prog) (w := w) (A := A.in1) hh _ l hlI (intItems xs)
  have ne : (s.heap.push { cls := .type "list_iterator", data := .fields #[.ref l, .int 0 0] }).objs.size ∉ [s.heap.objs.size, l] := fun hm => Nat.lt_irrefl _ (hfp _ hm)
  have up : ∀ {b : Addr} {o o2 : Obj}, s.heap.get? b = some o → ((s.heap.push { cls := .type "list_iterator", data := .fields #[.ref l, .int 0 0] }).push o2).get? b = some o := fun e => Heap.get?_push_of_some _ (Heap.get?_push_of_some _ e)
  have old : ∀ {b : Addr} {o : Obj}, s.heap.get? b = some o → b ∉ [s.heap.objs.size] := fun e hm => by
    rcases List.mem_cons.mp hm with z | z
    · exact absurd (z ▸ Heap.lt_size e) (Nat.lt_irrefl _)
    · cases z
  have old2 : ∀ {b : Addr} {o : Obj}, s.heap.get? b = some o → b ≠ (s.heap.push { cls := .type "list_iterator", data := .fields #[.ref l, .int 0 0] }).objs.size := fun e => Nat.ne_of_lt (Heap.lt_size (Heap.get?_push_of_some _ e))
  have st0 := W.frame 0 _ ((s.heap.push { cls := .type "list_iterator", data := .fields #[.ref l, .int 0 0] }).push { cls := .type "list", data := .seq #[] }) st fun b _ o e => Heap.get?_push_of_some _ e
  have hS : ((s.heap.push { cls := .type "list_iterator", data := .fields #[.ref l, .int 0 0] }).push { cls := .type "list", data := .seq #[] }).get? (s.heap.push { cls := .type "list_iterator", data := .fields #[.ref l, .int 0 0] }).objs.size = some { cls := .type "list", data := .seq #[] } := Heap.get?_push_size _ rfl
  refine wpAny_pure ⟨plainId_quiet F.plain_max_loop _, ?_⟩
  refine codeAny_builtin F.entry_max_loop ?_
  rw [Around.under_plainId F.plain_max_loop _]
  refine wpAny_bind (m := seqItems? (.ref _)) (wpAny_seqItems hS rfl ?_)
  have szE : (intItems xs).size = xs.size := by simp [intItems]
  by_cases hz : xs.size = 0
  · refine wpAny_bind (wpAny_tryCatch (W.done _ _ _ (by rw [szE, hz]; exact st0) fun h' tk keep => ?_))
    refine wpAny_bind (wpAny_rule (wpAny_pure ?_))
    exact h0 hz h' tk fun b o e => keep b o (old e) (up e)
  · refine wpAny_bind (wpAny_tryCatch (W.item 0 _ _ _ (by rw [szE]; omega) st0 fun v h' tk pv st2 keep => ?_))
    have hS2 := keep _ _ (by simp [Heap.size_push]) hS
    refine wpAny_bind (wpAny_pure ?_)
    refine wpAny_bind ?_
    refine wpAny_updateSeq hS2 rfl ?_
    rw [name]
    refine wpAny_pure ⟨plainId_quiet F.plain_max_loop _, maxKw_turn W _ (CmpOf.ints_gt (numAt xs) (fun _ _ => intItems_at)) _ ne _ 0 _ v _ rfl (by rw [szE]; omega) (W.frame _ _ _ st2 fun b hbf o e => ?_) pv (Heap.get?_update_self _ hS2 rfl) fun v' h2 tk2 p2 k2 => ?_⟩
    · rw [Heap.get?_update_other _ _ (fun z => ne (by rw [z]; exact hbf))]
      exact e
    · rw [szE] at p2
      refine h (by omega) v' h2 tk2 p2 fun b o e => k2 b o (old e) (old2 e) ?_
      rw [Heap.get?_update_other _ _ (Ne.symm (old2 e))]
      exact keep b o (old e) (up e)
end
end PySem
namespace L2.My
open PySem PySem.Spec PyProof.Rows
section
variable {X : Cx}
/-- max(xs, default=d) of a list of ints -/
def rMaxD (K : PySem.W.Frag) : List V → List V → Hp → VK → Prop := fun xs zs H Q => ∃ (a : Addr) (ns : List Int) (d : Int), xs = [.ref a] ∧ zs = [.int d] ∧ SqL K H a (ns.map V.int) ∧ (ns = [] → Q (.int d) H) ∧ ∀ m, m ∈ ns → (∀ y, y ∈ ns → y ≤ m) → Q (.int m) H
theorem cr_maxD (hc : X.calm = true) : CallRK X (.builtin "max") [Str.ofString "default"] (rMaxD X.K) := by
  intro pins s σ H vs zs us ws Q I r rz h
  obtain ⟨a, ns, d, rfl, rfl, hs, q0, q1⟩ := h
  obtain ⟨its, rv, hl, _⟩ := I.list hs
  have hi := rv.ints
  obtain rfl := Vals.ref1 r
  obtain ⟨w1, rfl, e1⟩ := vals1 rz
  obtain ⟨td, rfl⟩ := (show ∃ t, w1 = Value.int d t from e1)
  obtain ⟨xs, e⟩ := hi.allInts.items
  have hn : numsOf (intItems xs).toList = ns := by rw [← e]; exact hi.numsOf
  rw [nums_intItems] at hn
  have hl2 := hl.isList
  rw [e] at hl2
  have ez : ns.length = xs.size := by rw [← hn, List.length_map, Array.length_toList]
  refine PySem.max_intListD (I.ok.hd hc) hl2 (fun h0 h' tk keep => ?_) fun h0 v h' tk hv keep => ?_
  · exact ⟨.int d, H, I.kept keep, ⟨td, rfl⟩, q0 (List.eq_nil_of_length_eq_zero (by rw [ez, h0]))⟩
  · obtain ⟨t, rfl⟩ := intItems_at hv
    obtain ⟨h1, h2⟩ := argBest_gt (numAt xs) (xs.size - 1)
    refine ⟨.int _, H, I.kept keep, ⟨t, rfl⟩, q1 _ ?_ fun y hy => ?_⟩
    · rw [← hn, numAt_eq]
      exact PySem.getD_mem (by rw [List.length_map, Array.length_toList]; omega)
    · rw [← hn] at hy
      obtain ⟨j, hj, rfl⟩ := mem_getD hy
      rw [List.length_map, Array.length_toList] at hj
      rw [← numAt_eq]
      exact h2 j (by omega)
end
end L2.My
end
section
set_option Elab.async false
set_option linter.all false
set_option maxRecDepth 100000
set_option maxHeartbeats 4000000
namespace L2.My
open PySem PySem.Spec PyProof.Rows
theorem same_upd {H : Hp} {p : Addr} {o : HO} (h : H p = none) : Same H (upd H p o) := fun b x e => by
  rw [upd_ne (ne_of_none e h)]
  exact e
theorem keep_ne {H : Hp} {p : Addr} {o : HO} {b : Addr} {x : HO} (h : H p = none) (e : H b = some x) : (upd H p o) b = some x := same_upd h _ _ e
theorem cutTo (xs : List V) (n : Nat) : cutV xs none (some (n : Int)) = xs.take n := by
  unfold cutV
  rw [HT.sIx_none, HT.sIx_nat]
  rw [List.drop_zero, Nat.sub_zero]
  rw [← List.take_eq_take_min]
theorem ixN_zero {n : Nat} (h : 0 < n) : ixN n 0 = some 0 := by
  unfold ixN
  rw [if_pos (by omega), if_pos (by omega)]
  rfl
theorem mod_in {x m : Int} (h : 0 < m) : 0 ≤ x % m ∧ x % m < m := ⟨Int.emod_nonneg _ (by omega), Int.emod_lt_of_pos _ h⟩
inductive ThT (H : Hp) : V → String → Prop where
  | non : ThT H .non "NoneType"
  | bl (b : Bool) : ThT H (.bl b) "bool"
  | int (i : Int) : ThT H (.int i) "int"
  | str (x : Str) : ThT H (.str x) "str"
  | lst {a : Addr} {xs : List V} (h : H a = some (.lst xs)) : ThT H (.ref a) "list"
  | tup {a : Addr} {xs : List V} (h : H a = some (.tup xs)) : ThT H (.ref a) "tuple"
  | dct {a : Addr} {kvs : List (Key × V)} (h : H a = some (.dK kvs)) : ThT H (.ref a) "dict"
def instT (t n : String) : Bool := t == n || (t == "bool" && n == "int")
theorem ThT.tyX {K : PySem.W.Frag} {H : Hp} {v : V} {t : String} (h : ThT H v t) : TyX K H v (.type t) := by
  cases h with
  | non => exact .base .non
  | bl b => exact .base (.bl b)
  | int i => exact .base (.int i)
  | str x => exact .base (.str x)
  | lst h => exact .base (.lst h)
  | tup h => exact .base (.tup h)
  | dct h => exact .base (.dK h)
theorem kitB_all : ∀ t ∈ ["NoneType", "bool", "int", "str", "list", "tuple", "dict"], ∀ n ∈ ["bool", "int", "str", "list", "tuple", "dict"], kitB t n = some (instT t n) := by decide +kernel
theorem ThT.mem {H : Hp} {v : V} {t : String} (h : ThT H v t) : t ∈ ["NoneType", "bool", "int", "str", "list", "tuple", "dict"] := by
  cases h <;> decide
theorem ThT.keep {H H' : Hp} {v : V} {t : String} (h : ThT H v t) (s : Same H H') : ThT H' v t := by
  cases h with
  | non => exact .non
  | bl b => exact .bl b
  | int i => exact .int i
  | str x => exact .str x
  | lst h => exact .lst (s _ _ h)
  | tup h => exact .tup (s _ _ h)
  | dct h => exact .dct (s _ _ h)
def rIsTh : List V → Hp → VK → Prop := fun xs H Q => ∃ v n t, xs = [v, .ty n] ∧ ThT H v t ∧ n ∈ ["bool", "int", "str", "list", "tuple", "dict"] ∧ Q (.bl (instT t n)) H
theorem call_isTh {X : Cx} : CallR X (.builtin "isinstance") rIsTh := by
  intro pins s σ H xs us Q I r h
  obtain ⟨v, n, t, rfl, ht, hn, q⟩ := h
  exact call_isi pins s σ H _ us Q I r ⟨_, _, _, _, _, rfl, .ty _, ht.tyX, kit_ty (kitB_all t ht.mem n hn), q⟩
def belowV (n : Int) : V → Bool
  | .int i => decide (0 ≤ i ∧ i < n)
  | _ => false
theorem lt1 (a b : Nat) : decide (([a] : List Nat) < [b]) = decide (a < b) := by
  by_cases h : a < b
  · rw [decide_eq_true h, decide_eq_true (by exact List.Lex.rel h)]
  · rw [decide_eq_false h]
    refine decide_eq_false fun z => ?_
    rcases (List.cons_lt_cons_iff.mp z) with z | z
    · exact h z
    · exact absurd z.2 (by simp)
theorem seq_set {te : TE} {i : Nat} {u : TS} {D : Ends} {σ : St} {H : Hp} (h : te σ H fun v H1 => u D (σ.set i (some v)) H1) : tSeq (tAsg te (gName i)) u D σ H := h
theorem seq_par3 {ta : TA} {i j l : Nat} {u : TS} {D : Ends} {σ : St} {H : Hp} (h : ta σ H fun vs H1 => ∃ x y z, vs = [x, y, z] ∧ u D (((σ.set i (some x)).set j (some y)).set l (some z)) H1) : tSeq (tPar3 i j l ta) u D σ H := h
theorem seq_par {ta : TA} {i j : Nat} {u : TS} {D : Ends} {σ : St} {H : Hp} (h : ta σ H fun vs H1 => ∃ x y, vs = [x, y] ∧ u D ((σ.set i (some x)).set j (some y)) H1) : tSeq (tPar i j ta) u D σ H := h
theorem ret_of {te : TE} {D : Ends} {σ : St} {H : Hp} (h : te σ H D.rt) : tRet te D σ H := h
theorem lst_of {ta : TA} {σ : St} {H : Hp} {Q : VK} (h : ta σ H fun xs H1 => xs.length ≤ sizeLine ∧ ∀ p, H1 p = none → Q (.ref p) (upd H1 p (.lst xs))) : tLst ta σ H Q := h
theorem tup_of {ta : TA} {σ : St} {H : Hp} {Q : VK} (h : ta σ H fun xs H1 => xs.length ≤ sizeLine ∧ ∀ p, H1 p = none → Q (.ref p) (upd H1 p (.tup xs))) : tTup ta σ H Q := h
theorem cons_of {te : TE} {ta : TA} {σ : St} {H : Hp} {Q : List V → Hp → Prop} (h : te σ H fun x H1 => ta σ H1 fun xs H2 => Q (x :: xs) H2) : tCons te ta σ H Q := h
theorem nil_of {σ : St} {H : Hp} {Q : List V → Hp → Prop} (h : Q [] H) : tNil σ H Q := h
section
variable {J : It} {n : Nat} {G : Hp → Prop} {Y : Nat → Hp → V → Hp → Prop}
def CompOut (J : It) (g : TG) (tt : TT) (te : TE) (vs : List Nat) (σ : St) (D : Addr) (Qd : Hp → Prop) (H1 : Hp) : Prop :=
    ∃ W : Nat → Nat → Hp → Prop, (∃ m, W 0 m (upd H1 D (.lst []))) ∧ ∀ i m H, W i m H →
      (J.stop i H ∧ Qd H) ∨ (J.go i H ∧ ∃ Nx : Hp → Prop, (∀ H', Nx H' → ∃ m', m' < m ∧ W (i + 1) m' H') ∧ ∀ x H', J.yld i H x H' → g x (wipe σ vs) H' fun σ2 H2 => wipe σ2 vs = wipe σ vs ∧ tt σ2 H2 fun b H3 =>
        if b = true then te σ2 H3 fun y H4 => ∃ acc, H4 D = some (.lst acc) ∧ acc.length < sizeLine ∧ Nx (upd H4 D (.lst (acc ++ [y]))) else Nx H3)
theorem range_map_snoc {α : Type} (f : Nat → α) (i : Nat) : (List.range i).map f ++ [f i] = (List.range (i + 1)).map f := by
  rw [List.range_succ, List.map_append]; rfl
theorem range_fm_snoc {α : Type} (f : Nat → Option α) (i : Nat) {v : α} (h : f i = some v) : (List.range i).filterMap f ++ [v] = (List.range (i + 1)).filterMap f := by
  rw [List.range_succ, List.filterMap_append]; simp [h]
theorem range_fm_skip {α : Type} (f : Nat → Option α) (i : Nat) (h : f i = none) : (List.range i).filterMap f = (List.range (i + 1)).filterMap f := by
  rw [List.range_succ, List.filterMap_append]; simp [h]
theorem same_grow {H H4 H1 : Hp} {D : Addr} {o : HO} (s : Same H H4) (hD : H1 D = none) (s1 : Same H1 H) : Same H1 (upd H4 D o) := fun b u e => by
  rw [upd_ne (ne_of_none e hD)]
  exact s _ _ (s1 _ _ e)
theorem lcP (w : Walk J n G Y) {g : TG} {te : TE} {vs : List Nat} {σ : St} {H1 : Hp} {D : Addr} {Qd : Hp → Prop} (fv : Nat → V) (hn : n < sizeLine) (hD : H1 D = none) (hG : ∀ H', Same H1 H' → G H')
    (hs : ∀ i x H H' (Q' : VK), i < n → Same H1 H → Y i H x H' → (∀ H4, Same H H4 → Q' (fv i) H4) → g x (wipe σ vs) H' fun σ2 H2 => wipe σ2 vs = wipe σ vs ∧ te σ2 H2 Q')
    (hd : ∀ H, Same H1 H → H D = some (.lst ((List.range n).map fv)) → Qd H) : CompOut J g tYes te vs σ D Qd H1 := by
  refine lc_it w (tt := tYes) (fun i H => Same H1 H ∧ H D = some (.lst ((List.range i).map fv))) ⟨same_upd hD, upd_same⟩ (fun i H _ h => hG H h.1) ?_ (fun H h => hd H h.1 h.2)
  rintro i x H H' hi ⟨sm, hd'⟩ y
  have q := hs i x H H' (fun v H4 => ∃ acc, H4 D = some (.lst acc) ∧ acc.length < sizeLine ∧ Same H1 (upd H4 D (.lst (acc ++ [v]))) ∧ (upd H4 D (.lst (acc ++ [v]))) D = some (.lst ((List.range (i + 1)).map fv))) hi sm y
    (fun H4 s4 => ⟨_, s4 _ _ hd', by rw [List.length_map, List.length_range]; omega, same_grow s4 hD sm, by rw [upd_same, range_map_snoc]⟩)
  exact q
theorem lcF (w : Walk J n G Y) {g : TG} {tt : TT} {te : TE} {vs : List Nat} {σ : St} {H1 : Hp} {D : Addr} {Qd : Hp → Prop} (fv : Nat → Option V) (hn : n < sizeLine) (hD : H1 D = none) (hG : ∀ H', Same H1 H' → G H')
    (hs : ∀ i x H H' (Q' : VK) (N' : Hp → Prop), i < n → Same H1 H → Y i H x H' → (∀ v, fv i = some v → ∀ H4, Same H H4 → Q' v H4) → (fv i = none → ∀ H4, Same H H4 → N' H4) →
      g x (wipe σ vs) H' fun σ2 H2 => wipe σ2 vs = wipe σ vs ∧ tt σ2 H2 fun b H3 => if b = true then te σ2 H3 Q' else N' H3)
    (hd : ∀ H, Same H1 H → H D = some (.lst ((List.range n).filterMap fv)) → Qd H) : CompOut J g tt te vs σ D Qd H1 := by
  refine lc_it w (fun i H => Same H1 H ∧ H D = some (.lst ((List.range i).filterMap fv))) ⟨same_upd hD, upd_same⟩ (fun i H _ h => hG H h.1) ?_ (fun H h => hd H h.1 h.2)
  rintro i x H H' hi ⟨sm, hd'⟩ y
  have hl : ((List.range i).filterMap fv).length < sizeLine := by
    have := List.length_filterMap_le fv (List.range i)
    rw [List.length_range] at this
    omega
  have q := hs i x H H' (fun v H4 => ∃ acc, H4 D = some (.lst acc) ∧ acc.length < sizeLine ∧ Same H1 (upd H4 D (.lst (acc ++ [v]))) ∧ (upd H4 D (.lst (acc ++ [v]))) D = some (.lst ((List.range (i + 1)).filterMap fv)))
    (fun H4 => Same H1 H4 ∧ H4 D = some (.lst ((List.range (i + 1)).filterMap fv))) hi sm y
    (fun v hv H4 s4 => ⟨_, s4 _ _ hd', hl, same_grow s4 hD sm, by rw [upd_same, range_fm_snoc fv i hv]⟩) (fun hv H4 s4 => ⟨sm.trans s4, by rw [← range_fm_skip fv i hv]; exact s4 _ _ hd'⟩)
  exact q
end
def BL (L : List Addr) (H H' : Hp) : Prop := ∀ p o, p ∉ L → H p = some o → H' p = some o
theorem BL.refl {L : List Addr} {H : Hp} : BL L H H := fun _ _ _ h => h
theorem BL.trans {L : List Addr} {H H1 H2 : Hp} (x : BL L H H1) (y : BL L H1 H2) : BL L H H2 := fun p o h e => y p o h (x p o h e)
theorem BL.same {L : List Addr} {H H' : Hp} (s : Same H H') : BL L H H' := fun p o _ e => s _ _ e
theorem BL.upd {L : List Addr} {H : Hp} {p : Addr} {o : HO} (h : p ∈ L) : BL L H (upd H p o) := fun q u hq e => by
  rw [upd_ne (fun z => hq (by rw [z]; exact h))]; exact e
theorem u65 {k : Nat} {A : Around} (h : Room k A) : A.units + 65 < cLine := by have := h.un; omega
theorem u1 {k : Nat} {A : Around} (h : Room k A) : A.units + 1 < cLine := by have := h.un; omega
def kD : Key → PyData
  | .inl i => .int i
  | .inr x => .str x
def pD (ks : List Key) : PyData := .tuple (ks.map kD)
theorem eqvAll_map {α : Type} [DecidableEq α] {f : α → PyData} (h : ∀ a b, PyData.eqv (f a) (f b) = decide (a = b)) : ∀ xs ys : List α, PyData.eqvAll (xs.map f) (ys.map f) = decide (xs = ys)
  | [], [] => by simp [PyData.eqvAll]
  | [], y :: ys => by simp [PyData.eqvAll]
  | x :: xs, [] => by simp [PyData.eqvAll]
  | x :: xs, y :: ys => by
    rw [List.map_cons, List.map_cons, PyData.eqvAll, h, eqvAll_map h xs ys]
    by_cases h1 : x = y
    · by_cases h2 : xs = ys
      · simp [h1, h2]
      · simp [h1, h2]
    · simp [h1]
theorem eqv_k (a b : Key) : PyData.eqv (kD a) (kD b) = decide (a = b) := by
  cases a with
  | inl i => cases b with
    | inl j =>
      show PyData.eqv (.int i) (.int j) = _
      rw [PyData.eqv]
      by_cases h : i = j
      · subst h; simp
      · have : ¬ (Sum.inl i : Key) = Sum.inl j := fun z => h (Sum.inl.inj z)
        rw [decide_eq_false this]; simp [h]
    | inr y =>
      show PyData.eqv (.int i) (.str y) = _
      rw [decide_eq_false (fun z => nomatch z)]; simp [PyData.eqv]
  | inr x => cases b with
    | inl j =>
      show PyData.eqv (.str x) (.int j) = _
      rw [decide_eq_false (fun z => nomatch z)]; simp [PyData.eqv]
    | inr y =>
      show PyData.eqv (.str x) (.str y) = _
      rw [PyData.eqv]
      by_cases h : x = y
      · subst h; simp
      · have : ¬ (Sum.inr x : Key) = Sum.inr y := fun z => h (Sum.inr.inj z)
        rw [decide_eq_false this]; exact beq_eq_false_iff_ne.mpr h
theorem eqv_p (a b : List Key) : PyData.eqv (pD a) (pD b) = decide (a = b) := by
  unfold pD
  rw [PyData.eqv]
  exact eqvAll_map eqv_k a b
theorem eqv_s (x y : Str) : PyData.eqv (.str x) (.str y) = decide (x = y) := by
  have := eqv_k (.inr x) (.inr y)
  rw [show PyData.eqv (.str x) (.str y) = PyData.eqv (kD (.inr x)) (kD (.inr y)) from rfl, this]
  exact key_rr x y
def rLen (K : PySem.W.Frag) : List V → Hp → VK → Prop := fun xs H Q => ∃ p ys, xs = [.ref p] ∧ (SqL K H p ys ∨ SqT K H p ys) ∧ Q (.int ys.length) H
theorem can_map {α : Type} {f : α → PyData} : ∀ {xs : List α}, (∀ x ∈ xs, PyData.canLay0 (f x) = true) → PyData.canLayAll0 (xs.map f) = true
  | [], _ => by simp [PyData.canLayAll0]
  | x :: r, h => by
    have := can_map (f := f) (xs := r) fun y hy => h y (List.mem_cons_of_mem _ hy)
    simp [PyData.canLayAll0, this, h x List.mem_cons_self]
theorem dep_map {α : Type} {f : α → PyData} {n : Nat} (h : ∀ x, PyData.depth (f x) ≤ n) : ∀ xs : List α, PyData.depthAll (xs.map f) ≤ n
  | [] => by simp [PyData.depthAll]
  | x :: r => by
    have h1 := dep_map h r
    have h2 := h x
    simp only [List.map_cons, PyData.depthAll]
    omega
theorem shaped_list {α : Type} {f : α → PyData} {n : Nat} (hn : n < 64) (hd : ∀ x, PyData.depth (f x) ≤ n) {xs : List α} (hc : ∀ x ∈ xs, PyData.canLay0 (f x) = true) : SeqAt.shaped (.list (xs.map f)) = true := by
  have h1 := can_map hc
  have h2 := dep_map hd xs
  simp only [SeqAt.shaped, PyData.canLay0, PyData.depth, Bool.and_eq_true, decide_eq_true_eq]
  exact ⟨h1, decide_eq_true (by omega)⟩
theorem shaped_ints (xs : List Int) : SeqAt.shaped (.list (xs.map .int)) = true := shaped_list (n := 1) (by decide) (fun x => by simp [PyData.depth]) fun e he => by simp [PyData.canLay0]
theorem dp_ints {K : PySem.W.Frag} {H : Hp} : ∀ xs : List Int, DpAll K H (xs.map .int) (xs.map .int)
  | [] => .nil
  | x :: r => .cons (.int x) (dp_ints r)
theorem seqT {K : PySem.W.Frag} {H H' : Hp} {a : Addr} {xs : List V} (e : Same H H') (h : SqT K H a xs) : SqT K H' a xs := by
  rcases h with (h | ⟨o, h⟩) | h
  · exact .inl (.inl (e _ _ h))
  · exact .inl (.inr ⟨o, e _ _ h⟩)
  · exact .inr h
end L2.My
end
section
set_option Elab.async false
set_option linter.all false
set_option maxRecDepth 100000
set_option maxHeartbeats 4000000
/-! enumerate of a tuple, of a dict; setdefault and comprehensions of dicts with tuple keys. -/
namespace PySem
open PySem.Spec PyProof.Rows
section
variable {prog : Program} {w : World} {A : Around} {E : Value → Shared → Prop} {s : Shared}
/-- the next key of a dict's iterator, as another iterator draws it -/
theorem my_keyNext {it d : Addr} {i n ep : Nat} {od : Obj} {es : Array DictEntry} {en : DictEntry} {Q : Value → Shared → Prop} (hit : s.heap.IsKeyIter it d i n ep) (hod : s.heap.get? d = some od) (hdd : od.data = .dict es ep)
    (hsz : es.size = n) (hx : es[i]? = some en) (hQ : ∀ h', h'.IsKeyIter it d (i + 1) n ep → Heap.SameBut it s.heap h' → Q en.key { s with heap := h' }) : wpAny (model prog w) A (Builtin.SmallTypes.nextOf (.ref it)) Q E s := by
  obtain ⟨o, ho, hc, hd⟩ := id hit
  unfold Builtin.SmallTypes.nextOf
  refine wpAny_bind (wpAny_callSpecial?_slot (name := Str.ofString "__next__") hit.typeIs F.slot_dict_keyiterator_next (wpAny_call_entry F.slot_dict_keyiterator_next hit.typeIs F.entry_dict_keyiterator_next ?_ (F.args_dict_keyiterator_next_1 _)))
  refine wpAny_bind (wpAny_pure (wpAny_bind (wpAny_bind ?_)))
  first | refine wpAny_bind (wpAny_typeNameOfWhole_keyiter hit.typeIs (wpAny_pure (wpAny_bind (wpAny_fieldsOf ho hd ?_)))) | refine wpAny_bind (wpAny_typeNameOf_keyiter hit.typeIs (wpAny_pure (wpAny_bind (wpAny_fieldsOf ho hd ?_))))
  have own : Builtin.Dict_items.ownsTuple "dict_keyiterator" = false := by decide
  simp only [own, Bool.false_eq_true, if_false]
  show wpAny _ _ (if (Value.ref d == Value.none) = true then _ else _) _ _ _
  rw [if_neg (show ¬ (Value.ref d == Value.none) = true from fun z => nomatch z)]
  refine wpAny_bind (wpAny_pure (wpAny_bind (wpAny_dictEntries hod hdd ?_)))
  rw [if_neg (by simp [hsz])]
  refine wpAny_bind (wpAny_pure (wpAny_bind (wpAny_dictEpoch hod hdd ?_)))
  rw [if_neg (by simp)]
  refine wpAny_pure ?_
  obtain ⟨lt, hen⟩ := Array.getElem?_eq_some_iff.mp hx
  simp only [show ¬ ((i : Int) < 0) by omega, if_false, Int.toNat_natCast, Array.getElem?_eq_getElem lt]
  refine wpAny_bind ?_
  first | refine wpAny_bind (wpAny_typeNameOfWhole_keyiter hit.typeIs (wpAny_pure (wpAny_bind (wpAny_isOneOf_keyiter hit.typeIs ?_)))) | refine wpAny_bind (wpAny_typeNameOf_keyiter hit.typeIs (wpAny_pure (wpAny_bind (wpAny_isOneOf_keyiter hit.typeIs ?_))))
  show wpAny _ _ (setField (.ref it) 1 (rawInt ((i : Int) + 1)) >>= _) _ _ _
  refine wpAny_bind (wpAny_setField ho hd (by simp) ?_)
  have hit2 : (s.heap.update it (Obj.mapFields (·.setIfInBounds 1 (rawInt ((i : Int) + 1))))).IsKeyIter it d (i + 1) n ep := ⟨_, Heap.get?_update_self _ ho (Obj.isFreed_of_fields (Obj.data_mapFields hd _)), (Obj.cls_mapFields ..).trans hc, by rw [Obj.data_mapFields hd]; simp [rawInt]⟩
  refine wpAny_bind (wpAny_holding (wpAny_bind (wpAny_isOneOf_keyiter (s := { s with heap := s.heap.update it (Obj.mapFields (·.setIfInBounds 1 (rawInt ((i : Int) + 1)))) }) hit2.typeIs ?_)))
  show wpAny _ _ (pure es[i].key) _ _ _
  rw [hen]
  exact wpAny_pure (wpAny_pure ⟨_, rfl, wpAny_pure (hQ _ hit2 (Heap.SameBut.update ..))⟩)
theorem my_keyEnd {it d : Addr} {i n ep : Nat} {od : Obj} {es : Array DictEntry} {Q : Value → Shared → Prop} (hh : A.handled = none) (hit : s.heap.IsKeyIter it d i n ep) (hod : s.heap.get? d = some od) (hdd : od.data = .dict es ep)
    (hsz : es.size = n) (hge : n ≤ i) (hE : ∀ h' e, Heap.ExtBut it s.heap h' → (∃ o, h'.get? e = some o ∧ o.cls = .type "StopIteration") → E (.ref e) { s with heap := h' }) : wpAny (model prog w) A (Builtin.SmallTypes.nextOf (.ref it)) Q E s := by
  obtain ⟨o, ho, hc, hd⟩ := id hit
  unfold Builtin.SmallTypes.nextOf
  refine wpAny_bind (wpAny_callSpecial?_slot (name := Str.ofString "__next__") hit.typeIs F.slot_dict_keyiterator_next (wpAny_call_entry F.slot_dict_keyiterator_next hit.typeIs F.entry_dict_keyiterator_next ?_ (F.args_dict_keyiterator_next_1 _)))
  refine wpAny_bind (wpAny_pure (wpAny_bind (wpAny_bind ?_)))
  first | refine wpAny_bind (wpAny_typeNameOfWhole_keyiter hit.typeIs (wpAny_pure (wpAny_bind (wpAny_fieldsOf ho hd ?_)))) | refine wpAny_bind (wpAny_typeNameOf_keyiter hit.typeIs (wpAny_pure (wpAny_bind (wpAny_fieldsOf ho hd ?_))))
  have own : Builtin.Dict_items.ownsTuple "dict_keyiterator" = false := by decide
  simp only [own, Bool.false_eq_true, if_false]
  show wpAny _ _ (if (Value.ref d == Value.none) = true then _ else _) _ _ _
  rw [if_neg (show ¬ (Value.ref d == Value.none) = true from fun z => nomatch z)]
  refine wpAny_bind (wpAny_pure (wpAny_bind (wpAny_dictEntries hod hdd ?_)))
  rw [if_neg (by simp [hsz])]
  refine wpAny_bind (wpAny_pure (wpAny_bind (wpAny_dictEpoch hod hdd ?_)))
  rw [if_neg (by simp)]
  refine wpAny_pure ?_
  have ge2 : es.size ≤ i := by omega
  simp only [show ¬ ((i : Int) < 0) by omega, if_false, Int.toNat_natCast, Array.getElem?_eq_none ge2]
  refine wpAny_bind ?_
  first | refine wpAny_bind (wpAny_typeNameOfWhole_keyiter hit.typeIs (wpAny_pure ?_)) | refine wpAny_bind (wpAny_typeNameOf_keyiter hit.typeIs (wpAny_pure ?_))
  show wpAny _ _ (setField (.ref it) 0 .none >>= _) _ _ _
  refine wpAny_bind (wpAny_setField ho hd (by simp) ?_)
  show wpAny _ _ (newExc (.type "StopIteration") [] >>= _) _ _ _
  simp only [newExc, newTuple]
  refine wpAny_bind (wpAny_bind (wpAny_newObj_type ?_ (by size_fits)))
  refine wpAny_bind (m := firstArgMember _ _) (wpAny_of_eq (a := Value.none) (by first | rfl | (simp only [firstArgMember]; rfl)) (wpAny_newObj_type ?_ (by size_fits)))
  simp only [raiseNew]
  refine wpAny_bind (wpAny_handled ?_)
  first | rw [show A.in1.handled = none from hh] | rw [hh]
  refine wpAny_bind (wpAny_pure (wpAny_throw ?_))
  exact hE _ _ (((Heap.SameBut.update ..).extBut.push _).push _) ⟨_, Heap.get?_push_size _ rfl, rfl⟩
end
theorem my_drawKeys {prog : Program} {w : World} {A : Around} (hh : A.handled = none) (it d : Addr) (hne : d ≠ it) (od : Obj) (es : Array DictEntry) (ep : Nat) (hdd : od.data = .dict es ep) :
    Draws prog w A it [it, d] es.size (fun i v => ∃ en, es[i]? = some en ∧ v = en.key) (fun i h => h.IsKeyIter it d i es.size ep ∧ h.get? d = some od) where
  live := fun _ _ st => let ⟨o, ho, _⟩ := st.1; ⟨o, ho⟩
  frame := fun _ _ _ st hk => ⟨st.1.at fun o e => hk it (by simp) o e, hk d (by simp) _ st.2⟩
  item := fun i s Q E hi st hQ => my_keyNext st.1 st.2 hdd rfl (en := es[i]) (by simp [hi]) fun h' hit' hs' => hQ _ h' s.toks ⟨es[i], by simp [hi], rfl⟩ ⟨hit', (hs'.2 d hne).trans st.2⟩ hs'
  done := fun s Q E st hE => my_keyEnd hh st.1 st.2 hdd rfl (Nat.le_refl _) hE
set_option maxHeartbeats 1000000 in
theorem my_enumNew {v : Value} {o : Obj} {H : Heap → Prop} (B : Begins v o H) :
    Meets (Builtin.«enumerate.__new__» ⟨[.type "enumerate", v], []⟩) (fun _ R s => H s.heap ∧ R (.ok (.ret (.ref (s.heap.push o).objs.size))) { s with heap := (s.heap.push o).push { cls := .type "enumerate", data := .fields #[.none, .bool false, .ref s.heap.objs.size, rawInt 0, .none, .none] } }) :=
  .of_wp fun prog w A R s h => by
    obtain ⟨hp, g, dr, tk, os⟩ := s
    obtain ⟨h1, h⟩ := h
    have hsub := sub_enumerate
    have q1 : ∀ {A' : Around} {E Q : Value → Shared → Prop}, Q (.ref hp.objs.size) ⟨hp.push o, g, dr, tk, os⟩ → wpAny (model prog w) A' (pyIter v) Q E ⟨hp, g, dr, tk, os⟩ := fun q => B.iter prog w _ _ ⟨hp, g, dr, tk, os⟩ _ h1 q
    wp_walk using q1
    refine wpAny_stack_any fun _ => wpAny_pure ?_
    split
    · rename_i c _ _ _ _ _
      cases (c == Value.type "enumerate") <;> (wp_walk using q1; exact ⟨_, rfl, h⟩)
    · wp_walk using q1; exact ⟨_, rfl, h⟩
theorem my_enum {prog : Program} {w : World} {A : Around} {E : Value → Shared → Prop} {s : Shared} {v : Value} {o : Obj} {H : Heap → Prop} {Q : Value → Shared → Prop} (B : Begins v o H) (h1 : H s.heap)
    (h : ∀ h', IsEnum h' (s.heap.objs.size + 1) s.heap.objs.size 0 .none → h'.get? s.heap.objs.size = some o → (∀ b o, s.heap.get? b = some o → h'.get? b = some o) → Q (.ref (s.heap.objs.size + 1)) { s with heap := h' }) :
    wpAny (model prog w) A (call (.type "enumerate") [v]) Q E s := by
  refine callType_new F.called_enumerate (by decide) (F.typeCall_enumerate_1 _) (F.newCall_enumerate_1 _) (fun obj => F.args_object_init_2 obj _) F.entry_enumerate_new (my_enumNew B) ⟨h1, ?_⟩
  have hz : (s.heap.push o).objs.size = s.heap.objs.size + 1 := Heap.size_push ..
  have he := Heap.get?_push_size (s.heap.push o) (o := { cls := .type "enumerate", data := .fields #[.none, .bool false, .ref s.heap.objs.size, rawInt 0, .none, .none] }) rfl
  show _ ∧ _
  rw [hz] at he ⊢
  exact ⟨⟨_, he, rfl⟩, h _ he (Heap.get?_push_of_some _ (Heap.get?_push_size _ B.free)) fun b o x => Heap.get?_push_of_some _ (Heap.get?_push_of_some _ x)⟩
end PySem
end
section
set_option Elab.async false
set_option linter.all false
set_option maxRecDepth 100000
set_option maxHeartbeats 4000000
namespace L2.My
open PySem PySem.Spec PyProof.Rows
/-- the tuple at a, counted, each item in a new pair -/
def IteT (K : PySem.W.Frag) (a : Addr) : It :=
  ⟨fun i H => ∃ (xs : List V) (x : V), SqT K H a xs ∧ xs[i]? = some x, fun i H v H' => ∃ T x, v = .ref T ∧ H T = none ∧ H' = upd H T (.tup [.int (i : Nat), x]) ∧ ∀ xs, SqT K H a xs → xs[i]? = some x, fun i H => ∃ xs : List V, SqT K H a xs ∧ xs.length = i⟩
/-- the keys of the locked dict at d, counted -/
def IteK (d : Addr) (od : Obj) (kvs : List (List Key × V)) : It :=
  ⟨fun i H => H d = some (.frz od (.dT kvs)) ∧ i < kvs.length, fun i H v H' => ∃ T q k x, v = .ref T ∧ H T = none ∧ H' = upd H T (.tup [.int (i : Nat), .ref q]) ∧ kvs[i]? = some (k, x) ∧ H q = some (.tup (k.map kV)), fun i H => H d = some (.frz od (.dT kvs)) ∧ kvs.length = i⟩
section
variable {P : Program} {w : World} {K : PySem.W.Frag} {elts : List Expr} {kk : Nat} {tpos : Pos}
theorem turn_enT (a e it : Addr) : Turn P w K (.Tuple elts kk tpos) (IteT K a) [e, it] e (fun i h => (∃ old, IsEnum h e it ((i : Nat) : Int) old) ∧ h.IsTupleIter it a i ∧ e ≠ it ∧ a ≠ it ∧ a ≠ e) where
  mem := by simp
  obj := fun i h st b hb => by
    obtain ⟨⟨old, he⟩, ⟨o, ho, hc, hd⟩, _⟩ := st
    rcases (show b = e ∨ b = it by simpa using hb) with rfl | rfl
    · exact ⟨_, he, fun v q => nomatch q⟩
    · exact ⟨o, ho, fun v q => by rw [hd] at q; cases q⟩
  keep := fun i h h' st k => let ⟨⟨old, he⟩, hi, r⟩ := st; ⟨⟨old, k e (by simp) _ he⟩, hi.at fun o q => k it (by simp) o q, r⟩
  item := by
    intro X hP hw hK hc i pins s σ H E I hf st hg
    subst hP hw hK
    obtain ⟨⟨old, he⟩, hit, hne, hai, hae⟩ := st
    obtain ⟨xs, x, hq, hx⟩ := hg
    obtain ⟨its, rv, p, hz⟩ := I.tuple hq
    obtain ⟨u, hu, ru⟩ := rv.get hx
    have hel : e < s.heap.objs.size := Heap.lt_size he
    have hil : it < s.heap.objs.size := by obtain ⟨_, q, _⟩ := hit; exact Heap.lt_size q
    have lt : i < its.toArray.size := by
      have := (List.getElem?_eq_some_iff.mp hu).1
      simpa using this
    refine wpAny_pyNext_enum_itemC (Draws.tuple (prog := X.prog) (w := X.w) (A := X.A.in1) (I.ok.hd hc) it a hai its.toArray) he ⟨hit, p⟩ lt hne (by simp [hne, Ne.symm hae]) fun y h' tk hP ho hs' hT hsz hk => ?_
    obtain rfl : y = u := by
      have z : its.toArray[i]? = some u := by simpa using hu
      exact Option.some.inj (hP.symm.trans z)
    refine ⟨_, rfl, wpAny_letOwnedTupleGo_enum (s := { s with heap := h', toks := tk + 1 }) ho fun h2 he2 sb => ?_⟩
    have hT2 : h2.get? s.heap.objs.size = some { cls := .type "tuple", data := .seq #[.int i tk, y] } := (sb.2 _ (Nat.ne_of_gt hel)).trans hT
    have new : ObjOk X.prog X.w (upd H s.heap.objs.size (.tup [.int (i : Nat), x])) h2 s.heap.objs.size (.tup [.int (i : Nat), x]) := ⟨by show 2 ≤ sizeLine; decide, [.int i tk, y], .cons ⟨_, rfl⟩ (.cons ru .nil), ⟨_, hT2, rfl, _, rfl⟩⟩
    have I1 : Inv X pins σ (upd H s.heap.objs.size (.tup [.int (i : Nat), x])) { s with heap := h2, toks := tk + 1 } :=
      I.turnedNew (t' := tk + 1) (ch := [e, it]) (fun b ob hb q => (sb.2 b (fun z => hb (by simp [z]))).trans (hk b ob (fun z => hb (by simp [z])) (fun z => hb (by simp [z])) q)) hf (Nat.le_refl _) new
    refine ⟨.ref s.heap.objs.size, _, I1, rfl, ⟨_, x, rfl, I.hok.fresh (Nat.le_refl _), rfl, fun ys hy => by rw [I.tuple_inj hy hq]; exact hx⟩, ⟨⟨y, ?_⟩, hs'.1.at fun o q => (sb.2 it (Ne.symm hne)).trans q, hne, hai, hae⟩, fun b hb => ?_⟩
    · have e1 : ((i + 1 : Nat) : Int) = (i : Int) + 1 := by omega
      rw [e1]; exact he2
    · have hb' : b < s.heap.objs.size := by
        rcases (show b = e ∨ b = it by simpa using hb) with rfl | rfl
        · exact hel
        · exact hil
      rw [upd_ne (Nat.ne_of_lt hb')]
      exact (hf b hb).1
  done := by
    intro X hP hw hK hc i pins s σ H E I hf st hg
    subst hP hw hK
    obtain ⟨⟨old, he⟩, hit, hne, hai, hae⟩ := st
    obtain ⟨xs, hq, hx⟩ := hg
    obtain ⟨its, rv, p, hz⟩ := I.tuple hq
    obtain ⟨f0, f1, f2, f3, f4, f5⟩ := hf it (by simp)
    have hl := rv.length
    have ei : its.toArray.size = i := by simp; omega
    subst ei
    exact wpAny_pyNext_enum_endD (Draws.tuple (prog := X.prog) (w := X.w) (A := X.A.in1) (I.ok.hd hc) it a hai its.toArray) he ⟨hit, p⟩ fun h' eb => ⟨rfl, I.turned (t' := s.toks) (fun b o hb q => eb b o hb q) f0 f1 f3 f4 f5⟩
  self := fun A i s Q E st h => let ⟨⟨_, he⟩, _⟩ := st; wpAny_pyIter_enum he h
theorem turn_enK {d : Addr} {od : Obj} {es : Array DictEntry} {ep : Nat} {kvs : List (List Key × V)} (hdd : od.data = .dict es ep) (hsz : es.size = kvs.length) (e it : Addr) : Turn P w K (.Tuple elts kk tpos) (IteK d od kvs) [e, it] e (fun i h => (∃ old, IsEnum h e it ((i : Nat) : Int) old) ∧ h.IsKeyIter it d i es.size ep ∧ e ≠ it ∧ d ≠ it ∧ d ≠ e) where
  mem := by simp
  obj := fun i h st b hb => by
    obtain ⟨⟨old, he⟩, ⟨o, ho, hc, hd⟩, _⟩ := st
    rcases (show b = e ∨ b = it by simpa using hb) with rfl | rfl
    · exact ⟨_, he, fun v q => nomatch q⟩
    · exact ⟨o, ho, fun v q => by rw [hd] at q; cases q⟩
  keep := fun i h h' st k => let ⟨⟨old, he⟩, hi, r⟩ := st; ⟨⟨old, k e (by simp) _ he⟩, hi.at fun o q => k it (by simp) o q, r⟩
  item := by
    intro X hP hw hK hc i pins s σ H E I hf st hg
    subst hP hw hK
    obtain ⟨⟨old, he⟩, hit, hne, hai, hae⟩ := st
    obtain ⟨hd, hi⟩ := hg
    obtain ⟨hs, hgd, hx, es', ep', hdt, hsz', ent⟩ := I.frzT hd
    obtain ⟨ee1, ee2⟩ := dict_ep hdt hdd
    subst ee1 ee2
    obtain ⟨⟨k, x⟩, hkv⟩ : ∃ p, kvs[i]? = some p := ⟨kvs[i], List.getElem?_eq_getElem hi⟩
    obtain ⟨en, q, hen, hkey, hq⟩ := ent i k x hkv
    have hel : e < s.heap.objs.size := Heap.lt_size he
    have hil : it < s.heap.objs.size := by obtain ⟨_, q, _⟩ := hit; exact Heap.lt_size q
    refine wpAny_pyNext_enum_itemC (my_drawKeys (prog := X.prog) (w := X.w) (A := X.A.in1) (I.ok.hd hc) it d hai od es ep hdd) he ⟨hit, hgd⟩ (by omega) hne (by simp [hne, Ne.symm hae]) fun y h' tk hP ho hs' hT hsz2 hk => ?_
    obtain ⟨en2, hen2, rfl⟩ := hP
    rw [hen] at hen2
    cases hen2
    rw [hkey] at ho hT
    refine ⟨_, rfl, wpAny_letOwnedTupleGo_enum (s := { s with heap := h', toks := tk + 1 }) ho fun h2 he2 sb => ?_⟩
    have hT2 : h2.get? s.heap.objs.size = some { cls := .type "tuple", data := .seq #[.int i tk, .ref q] } := (sb.2 _ (Nat.ne_of_gt hel)).trans hT
    have new : ObjOk X.prog X.w (upd H s.heap.objs.size (.tup [.int (i : Nat), .ref q])) h2 s.heap.objs.size (.tup [.int (i : Nat), .ref q]) := ⟨by show 2 ≤ sizeLine; decide, [.int i tk, .ref q], .cons ⟨_, rfl⟩ (.cons rfl .nil), ⟨_, hT2, rfl, _, rfl⟩⟩
    have I1 : Inv X pins σ (upd H s.heap.objs.size (.tup [.int (i : Nat), .ref q])) { s with heap := h2, toks := tk + 1 } :=
      I.turnedNew (t' := tk + 1) (ch := [e, it]) (fun b ob hb q => (sb.2 b (fun z => hb (by simp [z]))).trans (hk b ob (fun z => hb (by simp [z])) (fun z => hb (by simp [z])) q)) hf (Nat.le_refl _) new
    refine ⟨.ref s.heap.objs.size, _, I1, rfl, ⟨_, q, k, x, rfl, I.hok.fresh (Nat.le_refl _), rfl, hkv, hq⟩, ⟨⟨.ref q, ?_⟩, hs'.1.at fun o q => (sb.2 it (Ne.symm hne)).trans q, hne, hai, hae⟩, fun b hb => ?_⟩
    · have e1 : ((i + 1 : Nat) : Int) = (i : Int) + 1 := by omega
      rw [e1]; exact he2
    · have hb' : b < s.heap.objs.size := by
        rcases (show b = e ∨ b = it by simpa using hb) with rfl | rfl
        · exact hel
        · exact hil
      rw [upd_ne (Nat.ne_of_lt hb')]
      exact (hf b hb).1
  done := by
    intro X hP hw hK hc i pins s σ H E I hf st hg
    subst hP hw hK
    obtain ⟨⟨old, he⟩, hit, hne, hai, hae⟩ := st
    obtain ⟨hd, hi⟩ := hg
    obtain ⟨hs, hgd, hx, es', ep', hdt, hsz', ent⟩ := I.frzT hd
    obtain ⟨ee1, ee2⟩ := dict_ep hdt hdd
    subst ee1 ee2
    obtain ⟨f0, f1, f2, f3, f4, f5⟩ := hf it (by simp)
    have ei : es.size = i := by omega
    subst ei
    exact wpAny_pyNext_enum_endD (my_drawKeys (prog := X.prog) (w := X.w) (A := X.A.in1) (I.ok.hd hc) it d hai od es ep hdd) he ⟨hit, hgd⟩ fun h' eb => ⟨rfl, I.turned (t' := s.toks) (fun b o hb q => eb b o hb q) f0 f1 f3 f4 f5⟩
  self := fun A i s Q E st h => let ⟨⟨_, he⟩, _⟩ := st; wpAny_pyIter_enum he h
end
def iEnT (K : PySem.W.Frag) (ta : TA) : TI := fun σ H R => ta σ H fun vs H1 => ∃ a xs, vs = [.ref a] ∧ SqT K H1 a xs ∧ R (IteT K a) H1
theorem pi_enT {X : Cx} {e : Expr} {ta : TA} {p pos tpos : Pos} {elts : List Expr} {kk : Nat} (hg : Gl X "enumerate") (hm : X.mg "enumerate" = none) (ha : PA X [e] ta) (hs : starEach [e] X.env = [(false, eval e X.env)] := by rfl) :
    PI X (.Tuple elts kk tpos) (.Call (.Name "enumerate" p) [e] [] pos) (iEnT X.K ta) := by
  refine ⟨fun pins s σ H R I h => ?_⟩
  refine Call_ (ld_blt I hg hm boot_enumerate (PyProof.Rows.callWith_type1 (thn (ha.run pos pins s σ H _ I h) fun us s1 ⟨vs, H1, I1, r1, q1⟩ => ?_) hs rfl))
  obtain ⟨a, xs, ex, hq, q⟩ := q1
  subst ex
  obtain ⟨u, rfl, rx⟩ := vals1 r1
  obtain rfl : u = Value.ref a := rx
  obtain ⟨its, rv, p', hz⟩ := I1.tuple hq
  have lta : a < s1.heap.objs.size := by obtain ⟨_, e1, _⟩ := p'; exact Heap.lt_size e1
  refine my_enum (begins_tuple a its.toArray) p' fun h' he hit hk => wpAny_pyIter_enum he ?_
  have I2 : Inv X pins σ H1 { s1 with heap := h' } := I1.kept (t' := s1.toks) hk
  refine ⟨s1.heap.objs.size + 1, [s1.heap.objs.size + 1, s1.heap.objs.size], _, _, H1, rfl, I2, turn_enT a (s1.heap.objs.size + 1) s1.heap.objs.size, ⟨⟨.none, he⟩, ⟨_, hit, rfl, rfl⟩, Nat.succ_ne_self _, Nat.ne_of_lt lta, Nat.ne_of_lt (Nat.lt_succ_of_lt lta)⟩, fun b hb => ?_, q⟩
  have hle : s1.heap.objs.size ≤ b := by
    rcases (show b = s1.heap.objs.size + 1 ∨ b = s1.heap.objs.size by simpa using hb) with z | z <;> rw [z] <;> first | exact Nat.le_succ _ | exact Nat.le_refl _
  exact I1.fpOk hle (I1.hok.fresh hle)
theorem walk_enT {K : PySem.W.Frag} {a : Addr} {xs : List V} : Walk (IteT K a) xs.length (fun H => SqT K H a xs) (YPair (fun i => some (.int (i : Nat))) (fun i => xs[i]?)) :=
  ⟨fun i _ hi q => ⟨xs, xs[i], q, by simp [hi]⟩, fun _ q => ⟨xs, q, rfl⟩, fun i H v H' _ q ⟨T, x, h1, h2, h3, h4⟩ => ⟨T, .int (i : Nat), x, h1, h2, h3, rfl, h4 xs q⟩⟩
def iEnK (ta : TA) : TI := fun σ H R => ta σ H fun vs H1 => ∃ d o kvs, vs = [.ref d] ∧ H1 d = some (.frz o (.dT kvs)) ∧ R (IteK d o kvs) H1
theorem begins_keys {d : Addr} {od : Obj} {es : Array DictEntry} {ep : Nat} (hs : (d == sysModules) = false) (hx : od.ExactDict) (hdd : od.data = .dict es ep) : Begins (.ref d) { cls := .type "dict_keyiterator", data := .fields #[.ref d, .int 0 0, .int es.size 0, .int ep 0] } fun h => h.get? d = some od where
  iter := fun prog w A E s Q h1 h => iter_keys hs h1 hx hdd h
  keeps := fun h h' x hk => hk d _ x
  free := rfl
theorem pi_enK {X : Cx} {e : Expr} {ta : TA} {p pos tpos : Pos} {elts : List Expr} {kk : Nat} (hg : Gl X "enumerate") (hm : X.mg "enumerate" = none) (ha : PA X [e] ta) (hs : starEach [e] X.env = [(false, eval e X.env)] := by rfl) :
    PI X (.Tuple elts kk tpos) (.Call (.Name "enumerate" p) [e] [] pos) (iEnK ta) := by
  refine ⟨fun pins s σ H R I h => ?_⟩
  refine Call_ (ld_blt I hg hm boot_enumerate (PyProof.Rows.callWith_type1 (thn (ha.run pos pins s σ H _ I h) fun us s1 ⟨vs, H1, I1, r1, q1⟩ => ?_) hs rfl))
  obtain ⟨d, od, kvs, ex, hq, q⟩ := q1
  subst ex
  obtain ⟨u, rfl, rx⟩ := vals1 r1
  obtain rfl : u = Value.ref d := rx
  obtain ⟨hsm, hgd, hx, es, ep, hdt, hsz, ent⟩ := I1.frzT hq
  have ltd : d < s1.heap.objs.size := Heap.lt_size hgd
  refine my_enum (begins_keys hsm hx hdt) hgd fun h' he hit hk => wpAny_pyIter_enum he ?_
  have I2 : Inv X pins σ H1 { s1 with heap := h' } := I1.kept (t' := s1.toks) hk
  refine ⟨s1.heap.objs.size + 1, [s1.heap.objs.size + 1, s1.heap.objs.size], _, _, H1, rfl, I2, turn_enK hdt hsz (s1.heap.objs.size + 1) s1.heap.objs.size, ⟨⟨.none, he⟩, ⟨_, hit, rfl, rfl⟩, Nat.succ_ne_self _, Nat.ne_of_lt ltd, Nat.ne_of_lt (Nat.lt_succ_of_lt ltd)⟩, fun b hb => ?_, q⟩
  have hle : s1.heap.objs.size ≤ b := by
    rcases (show b = s1.heap.objs.size + 1 ∨ b = s1.heap.objs.size by simpa using hb) with z | z <;> rw [z] <;> first | exact Nat.le_succ _ | exact Nat.le_refl _
  exact I1.fpOk hle (I1.hok.fresh hle)
theorem walk_enK {d : Addr} {od : Obj} {kvs : List (List Key × V)} : Walk (IteK d od kvs) kvs.length (fun H => H d = some (.frz od (.dT kvs))) (fun i H v H' => ∃ T q k x, v = .ref T ∧ H T = none ∧ H' = upd H T (.tup [.int (i : Nat), .ref q]) ∧ kvs[i]? = some (k, x) ∧ H q = some (.tup (k.map kV))) :=
  ⟨fun i _ hi q => ⟨q, hi⟩, fun _ q => ⟨q, rfl⟩, fun i H v H' _ q y => y⟩
end L2.My
end
section
set_option Elab.async false
set_option linter.all false
set_option maxRecDepth 100000
set_option maxHeartbeats 4000000
namespace L2.My
open PySem PySem.Spec PyProof.Rows
section
variable {X : Cx} {pins : List (Addr × Obj)} {σ : St} {H : Hp} {s : Shared} {a b : Addr} {v : V} {r : Value} {A : Around} {E : Value → Shared → Prop} {kvs : List (List Key × V)} {k : List Key}
theorem d_dictSetT {Q : Unit → Shared → Prop} (hu : A.units + 2 < cLine) (I : Inv X pins σ H s) (e : H a = some (.dT kvs)) (eb : H b = some (.tup (k.map kV))) (hz : kvs.length < sizeLine) (rv : RelV v r)
    (h : ∀ s', Inv X pins σ (upd H a (.dT (putK kvs k v))) s' → Q () s') : wpAny (model X.prog X.w) A (dictSet a (.ref b) r) Q E s := by
  obtain ⟨z, hd, xs, rel, dd⟩ := dt_of I.hok e
  have zx : xs.length ≤ sizeLine := by rw [← Paired.length rel]; exact z
  have hl : (putK kvs k v).length ≤ sizeLine := by have := length_putK kvs k v; omega
  refine wpAny_dictSet_heap (hsz := zx) (show A.units < cLine by omega) (key_of I.hok eb) dd fun h' dd' hs => h _ ?_
  obtain ⟨q, es, ep, hq, h2, h3, h4, _, h5⟩ := dd'
  refine d_write I (by rw [e]; exact True.intro) hs ⟨q, hq⟩ ⟨hl, hd, _, (rel.put k eb rv).keeps fun c ys ec => ?_, q, es, ep, hq, h2, h3, h4, h5⟩
  rw [upd_ne (ne_of ec e (fun z => nomatch z))]
  exact ec
theorem d_setdT {d : V} {Q : Value → Shared → Prop} (hu : A.units + 2 < cLine) (I : Inv X pins σ H s) (e : H a = some (.dT kvs)) (eb : H b = some (.tup (k.map kV))) (hz : kvs.length < sizeLine) (rd : RelV d r)
    (h1 : ∀ v, valV kvs k = some v → ∀ (w' : Value) (s' : Shared), Inv X pins σ H s' → RelV v w' → Q w' s') (h2 : valV kvs k = none → ∀ (w' : Value) (s' : Shared), Inv X pins σ (upd H a (.dT (putK kvs k d))) s' → RelV d w' → Q w' s') :
    wpAny (model X.prog X.w) A (call (.builtin "dict.setdefault") [.ref a, .ref b, r]) Q E s := by
  obtain ⟨z, hd, xs, rel, dd⟩ := dt_of I.hok e
  have zx : xs.length ≤ sizeLine := by rw [← Paired.length rel]; exact z
  have q := rel.val k
  refine call_setdefault_heap (show A.units + 1 < cLine by omega) (key_of I.hok eb) hd dd (fun p hp => ?_) (fun hn h' dd' hs => ?_) zx
  · rw [hp] at q
    cases q0 : valV kvs k with
    | none => rw [q0] at q; exact (show False from q).elim
    | some v0 => rw [q0] at q; exact h1 v0 q0 _ _ (I.tok _) q
  · rw [hn] at q
    cases q0 : valV kvs k with
    | some v0 => rw [q0] at q; exact (show False from q).elim
    | none =>
      have hl : (putK kvs k d).length ≤ sizeLine := by have := length_putK kvs k d; omega
      obtain ⟨o, es, ep, hq, e2, e3, e4, _, e5⟩ := dd'
      have J : ObjOk X.prog X.w (upd H a (.dT (putK kvs k d))) h' a (.dT (putK kvs k d)) := ⟨hl, hd, _, (rel.put k eb rd).keeps fun c ys ec => (by
        rw [upd_ne (ne_of ec e (fun z => nomatch z))]
        exact ec), o, es, ep, hq, e2, e3, e4, e5⟩
      exact h2 q0 _ _ (d_write I (by rw [e]; exact True.intro) hs ⟨o, hq⟩ J) rd
end
/-- d.setdefault(y, z), tuple keys -/
def tDSetT (td ty tx : TE) : TE := fun σ H Q => td σ H fun x H1 => ∃ a, x = .ref a ∧ IsD H1 a ∧ ty σ H1 fun y H2 => tx σ H2 fun z H3 => ∃ (kvs : List (List Key × V)) (k : List Key) (b : Addr), H3 a = some (.dT kvs) ∧ y = .ref b ∧ H3 b = some (.tup (k.map kV)) ∧ kvs.length < sizeLine ∧
  (∀ v, valV kvs k = some v → Q v H3) ∧ (valV kvs k = none → Q z (upd H3 a (.dT (putK kvs k z))))
section
variable {X : Cx} {o e f : Expr} {td ty tx : TE} {apos cpos : Pos}
theorem pe_dsetT (hu : X.A.units + 2 < cLine) (ho : PE X o td) (he : PE X e ty) (hf : PE X f tx) (m : M2 X o "setdefault" apos e f cpos) : PE X (.Call (.Attribute o "setdefault" apos) [e, f] [] cpos) (tDSetT td ty tx) := by
  refine ⟨fun pins s σ H Q I h => ?_⟩
  refine wpAny_Call_method m.base m.few m.line PySem.F.plainAttrs_dict PySem.F.slot_dict_setdefault PySem.F.type_dict_setdefault (thn (ho.run pins s σ H _ I h) fun u s1 ⟨x, H1, I1, rx, a, ex, d, q1⟩ => ?_)
  subst ex
  obtain rfl : u = Value.ref a := rx
  obtain ⟨t1, t2, _⟩ := isD_at I1 d
  refine ⟨t1, t2, ?_⟩
  rw [m.trees]
  refine Calls.callWith_builtin rfl (Calls.evalArgs_plain (Calls.spliced_cons (thn (he.run pins s1 σ H1 _ I1 q1) fun iv s2 ⟨y, H2, I2, ry, q2⟩ => Calls.spliced_cons (thn (hf.run pins s2 σ H2 _ I2 q2) fun fv s3 ⟨z, H3, I3, rz, kvs, k, b, ea, ey, eb, hl, q3, q4⟩ => Calls.spliced_nil ?_))))
  subst ey
  obtain rfl : iv = Value.ref b := ry
  exact d_setdT hu I3 ea eb hl rz (fun v hv w' s4 I4 rw' => ⟨v, _, I4, rw', q3 v hv⟩) fun hn w' s4 I4 rw' => ⟨z, _, I4, rw', q4 hn⟩
end
/-! ### a comprehension -/
def tDcT (wi : TI) (g : TG) (tt : TT) (tk tv : TE) (vs : List Nat) : TE := fun σ H Q => wi σ H fun J H1 => ∀ D, H1 D = none → ∃ W : Nat → Nat → Hp → Prop, (∃ m, W 0 m (upd H1 D (.dT []))) ∧ ∀ i m H, W i m H →
  (J.stop i H ∧ Q (.ref D) H) ∨ (J.go i H ∧ ∃ Nx : Hp → Prop, (∀ H', Nx H' → ∃ m', m' < m ∧ W (i + 1) m' H') ∧ ∀ x H', J.yld i H x H' → g x (wipe σ vs) H' fun σ2 H2 => wipe σ2 vs = wipe σ vs ∧ tt σ2 H2 fun b H3 =>
    if b = true then tk σ2 H3 fun y H4 => tv σ2 H4 fun z H5 => ∃ kvs k b, y = .ref b ∧ H5 D = some (.dT kvs) ∧ H5 b = some (.tup (k.map kV)) ∧ kvs.length < sizeLine ∧ Nx (upd H5 D (.dT (putK kvs k z))) else Nx H3)
section
variable {X : Cx}
theorem dc_coreT {pins : List (Addr × Obj)} {s : Shared} {σ : St} {H : Hp} {Q : VK} {kx vx tg iter : Expr} {ifs : List Expr} {scope : Scope} {own : List (Str × Nat)} {pos pos' : Pos} {wi : TI} {g : TG} {tt : TT} {tk tv : TE} {use : Option (Value → Sem Unit)} {Qf : Value → Shared → Prop}
    (hu : X.A.units + 2 < cLine) (hc : X.calm = true) (hN : X.N.Nodup) (I : Inv X pins σ H s) (hi : PI X tg iter wi) (ok : BlkOk X.N X.env.scope scope own)
    (hg : ∀ (s : Shared) (H : Hp) (C : Addr) (cl : List (Str × Addr)) (fp : List Addr), PG (X.blk s H scope (compEnvC scope cl C X.env) fp) tg g) (ht : ∀ (s : Shared) (H : Hp) (C : Addr) (cl : List (Str × Addr)) (fp : List Addr), PTs (X.blk s H scope (compEnvC scope cl C X.env) fp) ifs tt)
    (hk : ∀ (s : Shared) (H : Hp) (C : Addr) (cl : List (Str × Addr)) (fp : List Addr), PE (X.blk s H scope (compEnvC scope cl C X.env) fp) kx tk)
    (he : ∀ (s : Shared) (H : Hp) (C : Addr) (cl : List (Str × Addr)) (fp : List Addr), PE (X.blk s H scope (compEnvC scope cl C X.env) fp) vx tv) (hs : ∀ x, foldedSetIterable iter X.env x = pure x)
    (h : tDcT wi g tt tk tv (own.map (·.2)) σ H Q)
    (hRR : ∀ D C s' m H', Inv X pins σ H' s' → Q (.ref D) H' → s'.heap.Ns C m → FpOk X pins H' C → compPost (model X.prog X.w) X.A X.xe use Qf (.ref D) C (.ok .next) s') :
    wpAny (model X.prog X.w) X.A (comprehension (.DictComp kx vx [⟨tg, iter, ifs, 0⟩] scope pos) scope X.env pos' newDict false (eval iter X.env) use) Qf X.xe s := by
  have hfree : ∀ y ∈ scope.names, y.2 = .free → ∃ c, X.env.cells.lookup y.1 = some c := fun y hy e => by
    rcases ok.free y hy e with k | k
    · exact I.ok.has _ (.inl k)
    · exact I.ok.has _ (.inr k)
  refine wpAny_comprehension_free (use := use) rfl hs (closure_ok hfree) ok.kind (fun y hy e => by rw [ok.uniq y hy, e])
    (thn (hi.run pins s σ H _ I h) fun xv s1 hx => thn hx fun itv s2 h2 => ?_)
  obtain ⟨it, fp, tn, J, H2, e, I2, T, st2, f2, q⟩ := h2
  subst e
  refine wpAny_newObj_type (newEnv_comp ?_)
  generalize hD : s2.heap.objs.size = D
  have hDn : H2 D = none := I2.hok.fresh (Nat.le_of_eq hD)
  obtain ⟨W, ⟨m0, w0⟩, turn⟩ := q D hDn
  -- the new list
  generalize hs3 : ({ s2 with heap := s2.heap.push { cls := .type "dict", data := .dict #[] } } : Shared) = s3
  have I3 : Inv X pins σ (upd H2 D (.dT [])) s3 := by
    rw [← hs3]
    refine I2.laid (t' := s2.toks) (fun b o e => Heap.get?_push_of_some _ e) (Nat.le_of_eq hD) ?_
    rw [← hD]
    exact dt_empty s2.heap I2.big
  have h3 : s3.heap = s2.heap.push { cls := .type "dict", data := .dict #[] } := by rw [← hs3]
  have sz : ∀ b ∈ fp, b < s2.heap.objs.size := fun b hb => by
    obtain ⟨o, e, _⟩ := T.obj _ _ st2 b hb
    exact Heap.lt_size e
  have f3 : ∀ b ∈ fp, FpOk X pins (upd H2 D (.dT [])) b ∧ b < s3.heap.objs.size := fun b hb => by
    have hlt := sz b hb
    refine ⟨⟨?_, (f2 b hb).2⟩, by rw [h3, Heap.size_push]; exact Nat.lt_succ_of_lt hlt⟩
    rw [upd_ne (by rw [← hD]; exact Nat.ne_of_lt hlt)]
    exact (f2 b hb).1
  have st3 : tn 0 s3.heap := T.keep _ _ _ st2 fun b _ o e => by rw [h3]; exact Heap.get?_push_of_some _ e
  have I4 := block_start I3 ok hN f3
  have pg := hg s3 (upd H2 D (.dT [])) s3.heap.objs.size (cellsFrom (s3.heap.objs.size + 1) scope.names (cloFrom X.env.cells scope.names [])) fp
  have pt := ht s3 (upd H2 D (.dT [])) s3.heap.objs.size (cellsFrom (s3.heap.objs.size + 1) scope.names (cloFrom X.env.cells scope.names [])) fp
  have pk := hk s3 (upd H2 D (.dT [])) s3.heap.objs.size (cellsFrom (s3.heap.objs.size + 1) scope.names (cloFrom X.env.cells scope.names [])) fp
  have pe := he s3 (upd H2 D (.dT [])) s3.heap.objs.size (cellsFrom (s3.heap.objs.size + 1) scope.names (cloFrom X.env.cells scope.names [])) fp
  show codeAny _ _ (.compStart (.DictComp kx vx [⟨tg, iter, ifs, 0⟩] scope pos) 0 (.ref it) (.ref D) (compEnvC scope (cellsFrom (s3.heap.objs.size + 1) scope.names (cloFrom X.env.cells scope.names [])) s3.heap.objs.size X.env)) (compPost (model X.prog X.w) X.A X.xe use Qf (.ref D) s3.heap.objs.size) { s3 with heap := pushCells (s3.heap.push { cls := .type "dict", data := .dict #[] }) scope.names }
  have nfp : ∀ b ∈ fp, (upd H2 D (.dT [])) b = none := fun b hb => (f3 b hb).1.1
  generalize hce : compEnvC scope (cellsFrom (s3.heap.objs.size + 1) scope.names (cloFrom X.env.cells scope.names [])) s3.heap.objs.size X.env = ce at I4 pg pt pk pe ⊢
  have cL : ce.locals = s3.heap.objs.size := by subst hce; rfl
  generalize hH3 : upd H2 D (.dT []) = H3 at I3 I4 pg pt pk pe w0 nfp f3
  generalize hs4 : ({ s3 with heap := pushCells (s3.heap.push { cls := .type "dict", data := .dict #[] }) scope.names } : Shared) = s4 at I4 ⊢
  have st4 : tn 0 s4.heap := T.keep _ _ _ st3 fun b _ o e => by rw [← hs4]; exact pushCells_keeps _ _ _ _ (Heap.get?_push_of_some _ e)
  have stat : ∀ {σ' : St} {H' : Hp} {s' : Shared}, Inv (X.blk s3 H3 scope ce fp) [] σ' H' s' → (∀ b ∈ fp, H' b = none) → ∀ b ∈ fp, FpOk (X.blk s3 H3 scope ce fp) [] H' b := fun {σ' H' s'} I' hn b hb =>
    ⟨hn b hb, (I'.ok.exf b hb).1, I'.ok.exfs b hb, .inl hb, fun x c e => (I'.ok.exf b hb).2 x c e, fun p hp => absurd (show p ∈ ([] : List (Addr × Obj)) ++ [] from hp) (by simp)⟩
  have loop : codeAny (model X.prog X.w) X.A (.compLoop (.DictComp kx vx [⟨tg, iter, ifs, 0⟩] scope pos) 0 (.ref it) (.ref D) ce) (compPost (model X.prog X.w) X.A X.xe use Qf (.ref D) s3.heap.objs.size) s4 := by
    refine compLoop_anyD (fun n s' => ∃ i H', Inv (X.blk s3 H3 scope ce fp) [] (wipe σ (own.map (·.2))) H' s' ∧ tn i s'.heap ∧ (∀ b ∈ fp, H' b = none) ∧ W i n H') ?_ m0 ⟨0, H3, I4, st4, nfp, w0⟩
    rintro n s5 ⟨i, H5, I5, st5, n5, w5⟩
    rcases turn i n H5 w5 with ⟨stop, qq⟩ | ⟨go, Nx, hNx, step⟩
    · have td := T.done (X.blk s3 H3 scope ce fp) rfl rfl rfl hc i [] s5 _ H5 (fun _ _ => False) I5 (stat I5 n5) st5 stop
      refine thnF td fun r s6 ⟨hr, I6⟩ => ?_
      subst hr
      -- back in the def's context
      have I7 : Inv X pins σ H5 s6 := I3.call' (ch := fp) I6.os I6.base I6.hok I6.bare fun b hb => ⟨(f3 b hb).1.2.2.2.1, (f3 b hb).1.2.1, (f3 b hb).1.2.2.2.2.1, (f3 b hb).1.2.2.2.2.2⟩
      have nC : H5 s3.heap.objs.size = none := by
        have z : H5 ce.locals = none := I6.free
        rw [cL] at z
        exact z
      obtain ⟨m, hn, _⟩ := I6.loc
      have hn : s6.heap.Ns ce.locals m := hn
      rw [cL] at hn
      exact hRR D s3.heap.objs.size s6 m H5 I7 qq hn (I3.fpOk (Nat.le_refl _) nC)
    · have ti := T.item (X.blk s3 H3 scope ce fp) rfl rfl rfl hc i [] s5 _ H5 (fun _ _ => False) I5 (stat I5 n5) st5 go
      refine thnF ti fun r s6 ⟨u, hr, h6⟩ => ?_
      subst hr
      refine thnF h6 fun _ s7 ⟨x, H7, I7, r7, y7, st7, n7⟩ => ?_
      have I7' := I7.pinned (stat I7 n7) (T.obj _ _ st7)
      refine thnF (pg.run _ s7 _ H7 x u _ I7' r7 (step x H7 y7)) fun _ s8 ⟨σ8, H8, I8, hw8, q8⟩ => ?_
      refine thnF (pt.run _ s8 σ8 H8 _ I8 q8) fun b s9 ⟨H9, I9, q9⟩ => ?_
      -- the turn's end
      have fin : ∀ {s' : Shared} {H' : Hp}, Inv (X.blk s3 H3 scope ce fp) ([] ++ pinsAt fp s7.heap) σ8 H' s' → Nx H' → ∃ m, m < n ∧ ∃ i H', Inv (X.blk s3 H3 scope ce fp) [] (wipe σ (own.map (·.2))) H' s' ∧ tn i s'.heap ∧ (∀ b ∈ fp, H' b = none) ∧ W i m H' := fun {s' H'} I' nx => by
        obtain ⟨m', hm, w'⟩ := hNx H' nx
        have pin' : ∀ b ∈ fp, ∀ o, s7.heap.get? b = some o → s'.heap.get? b = some o ∧ H' b = none := fun b hb o e =>
          let z := I'.pin (b, o) (List.mem_append_right _ (List.mem_append_right _ (mem_pinsAt hb e)))
          ⟨z.1, z.2.1⟩
        have hl : (wipe σ (own.map (·.2))).length = σ8.length := by rw [← hw8, wipe_length]
        refine ⟨m', hm, i + 1, H', (I'.unpinned (pins := [])).weak hl (fun j v e => ?_), T.keep _ _ _ st7 fun b hb o e => (pin' b hb o e).1, fun b hb => ?_, w'⟩
        · rw [← hw8] at e
          exact (wipe_some e).1
        · obtain ⟨o, e, _⟩ := T.obj _ _ st7 b hb
          exact (pin' b hb o e).2
      cases b with
      | false =>
        simp only [Bool.false_eq_true, if_false] at q9 ⊢
        exact fin I9 q9
      | true =>
        simp only [if_true] at q9 ⊢
        refine thnF (pk.run _ s9 σ8 H9 _ I9 q9) fun z s10 ⟨yk, H10, I10, r10, q10⟩ => ?_
        refine thnF (pe.run _ s10 σ8 H10 _ I10 q10) fun z2 s11 ⟨yv, H11, I11, r11, kvs, k, b, ek, hD11, hb11, hz11, nx⟩ => ?_
        subst ek
        obtain rfl : z = Value.ref b := r10
        exact d_dictSetT (X := X.blk s3 H3 scope ce fp) hu I11 hD11 hb11 hz11 r11 fun s12 I12 => fin I12 nx
  exact codeAny_compStart_dict loop (T.self X.A 0 _ _ _ st4 loop)
/-- as a value -/
theorem pe_dcT {kx vx tg iter : Expr} {ifs : List Expr} {scope : Scope} {own : List (Str × Nat)} {pos : Pos} {wi : TI} {g : TG} {tt : TT} {tk tv : TE} (hu : X.A.units + 2 < cLine) (hc : X.calm = true) (hN : X.N.Nodup) (hi : PI X tg iter wi) (ok : BlkOk X.N X.env.scope scope own)
    (hg : ∀ (s : Shared) (H : Hp) (C : Addr) (cl : List (Str × Addr)) (fp : List Addr), PG (X.blk s H scope (compEnvC scope cl C X.env) fp) tg g) (ht : ∀ (s : Shared) (H : Hp) (C : Addr) (cl : List (Str × Addr)) (fp : List Addr), PTs (X.blk s H scope (compEnvC scope cl C X.env) fp) ifs tt)
    (hk : ∀ (s : Shared) (H : Hp) (C : Addr) (cl : List (Str × Addr)) (fp : List Addr), PE (X.blk s H scope (compEnvC scope cl C X.env) fp) kx tk)
    (he : ∀ (s : Shared) (H : Hp) (C : Addr) (cl : List (Str × Addr)) (fp : List Addr), PE (X.blk s H scope (compEnvC scope cl C X.env) fp) vx tv) (hs : ∀ x, foldedSetIterable iter X.env x = pure x := by intro _; rfl) :
    PE X (.DictComp kx vx [⟨tg, iter, ifs, 0⟩] scope pos) (tDcT wi g tt tk tv (own.map (·.2))) := by
  refine ⟨fun pins s σ H Q I h => ?_⟩
  rw [arm_eval_DictComp]
  refine dc_coreT hu hc hN I hi ok hg ht hk he hs h fun D C s' m H' I' q hn f => ⟨m, hn, fun h'' sb => ?_⟩
  obtain ⟨f0, f1, f2, f3, f4, f5⟩ := f
  exact ⟨.ref D, H', I'.turned (t' := s'.toks) (fun b o hb e => (sb.2 b hb).trans e) f0 f1 f3 f4 f5, rfl, q⟩
end
end L2.My
end
section
set_option Elab.async false
set_option linter.all false
set_option maxRecDepth 100000
set_option maxHeartbeats 4000000
/-! Own rules: index in a tuple of data; a tuple times a number from one on. -/
namespace L2.My
open PySem PySem.Spec PyProof.Rows
section
variable {X : Cx}
/-- t.index(x), t a tuple of data: the first place of an equal one -/
def rTIndexD (K : PySem.W.Frag) : V → List V → Hp → VK → Prop := fun x xs H Q => ∃ (a : Addr) (y : V) (d : PyData) (ds : List PyData) (j : Nat) (z : PyData), x = V.ref a ∧ xs = [y] ∧ Dp K H (V.ref a) (.tuple ds) ∧ Dp K H y d ∧
  SeqAt.shaped (.tuple ds) = true ∧ SeqAt.shaped d = true ∧ ds[j]? = some z ∧ PyData.eqv z d = true ∧ (∀ (m : Nat) (z' : PyData), m < j → ds[m]? = some z' → PyData.eqv z' d = false) ∧ Q (.int (j : Nat)) H
theorem room_in_shapedT {A : Around} {d : PyData} {ds : List PyData} (sd : SeqAt.shaped d = true) (hu : A.units + 65 < cLine) : A.units + 1 + min (PyData.depthAll ds) d.depth < cLine := by
  have h : d.depth ≤ 64 := by
    unfold SeqAt.shaped at sd
    rw [Bool.and_eq_true, decide_eq_true_eq] at sd
    omega
  have := Nat.min_le_right (PyData.depthAll ds) d.depth
  omega
theorem mt_tindexD (hu : X.A.units + 65 < cLine) : MtR X "tuple.index" (rTIndexD X.K) := by
  intro pins s σ H x xs v us Q I rx rxs h
  obtain ⟨a, y, d, ds, j, z, rfl, rfl, hl, hy, sl, sd, hz, hzj, hno, q⟩ := h
  cases rx
  cases rxs with
  | cons ry rt =>
    rename_i uy ut
    cases rt
    obtain ⟨bs, r1⟩ := Dp.reads I d y uy hy ry
    have hxs : PyData.canLayAll0 ds = true := SeqAt.canLay_of_shaped sl
    have hroom : X.A.units + 1 + min (PyData.depthAll ds) d.depth < cLine := room_in_shapedT sd hu
    cases hl with
    | tup hs ha =>
      obtain ⟨its, rv, ⟨⟨cls, dd, data, sls⟩, ho, hc, n, hdn⟩, hlen⟩ := I.tuple hs
      simp only at hc hdn
      subst hc hdn
      obtain ⟨as, h4⟩ := Dp.readsAll I ds _ its ha rv
      have hn : its.length = ds.length := SeqAt.ReadsAll.length ds its as h4
      have hmap : its.map (SeqAt.readOf s.heap) = ds := SeqAt.readsAll_map ds its as hxs h4
      have hvl := rv.length
      have hsl := sizeLine_eq
      obtain ⟨hjd, _⟩ := List.getElem?_eq_some_iff.mp hz
      have hjl : j < its.length := by omega
      have hj : j < its.toArray.size := by simpa using hjl
      have at_ : ∀ (m : Nat) (hm : m < its.toArray.size) (z' : PyData), ds[m]? = some z' → SeqAt.readOf s.heap its.toArray[m] = z' := by
        intro m hm z' hz'
        have hml : m < its.length := by simpa using hm
        rw [← hmap, List.getElem?_map, List.getElem?_eq_getElem hml] at hz'
        have e1 : SeqAt.readOf s.heap its[m] = z' := Option.some.inj (show some (SeqAt.readOf s.heap its[m]) = some z' from hz')
        simpa using e1
      refine call_meets PySem.F.slot_tuple_index ⟨_, ho, rfl⟩ PySem.F.entry_tuple_index (PySem.F.args_tuple_index_2 _ _)
        (TI.tuple_indexAt a its.toArray n dd sls uy (fun u => PyData.eqv (SeqAt.readOf s.heap u) d) j hj ?_ ?_) ⟨ho, SeqAt.items_eqAt (vs := its.toArray) (show ReadsAll s.heap its.toArray.toList ds as from h4) r1 hxs (SeqAt.canLay_of_shaped sd) hroom, ?_⟩
      · show PyData.eqv (SeqAt.readOf s.heap its.toArray[j]) d = true
        rw [at_ j hj z hz]
        exact hzj
      · intro m hm hmj
        have hmd : m < ds.length := by omega
        have hz' : ds[m]? = some ds[m] := List.getElem?_eq_getElem hmd
        show PyData.eqv (SeqAt.readOf s.heap its.toArray[m]) d = false
        rw [at_ m hm _ hz']
        exact hno m _ hmj hz'
      · exact ⟨.int (j : Nat), H, I.tok _, ⟨_, rfl⟩, q⟩
/-- tuple * 1: the tuple itself -/
theorem tuple_mul1 (l : Addr) (items : Array Value) (n : Nat) (dd : Option Addr) (sl : Array (Option Value)) (u : Tok) :
    Meets (Builtin.«tuple.__mul__» ⟨[.ref l, .int 1 u], []⟩) (fun _ R s => s.heap.get? l = some { cls := .type "tuple", dict := dd, data := .seq items n, slots := sl } ∧ R (.ok (.ret (Value.ref l))) s) :=
  .of_wp fun prog w A R s h => by
    obtain ⟨hp, g, d, tk, os⟩ := s
    obtain ⟨hl, h⟩ := h
    have f1 := AutoSeq1.idx_int
    wp_walk using wpAny_loadPart' hl
    exact ⟨_, rfl, h⟩
def rRep1 (K : PySem.W.Frag) : R2 := fun x y H Q => (∃ l xs, x = .ref l ∧ y = .int 1 ∧ SqT K H l xs ∧ Q (.ref l) H) ∨ rRepT K x y H Q
theorem op_rep1 : OpR X (binaryOp .Mult) (rRep1 X.K) := by
  intro pins s σ H x y v u Q I rx ry h
  rcases h with ⟨l, xs, rfl, rfl, hT, q⟩ | h
  · cases rx
    obtain ⟨t, rfl⟩ := ry
    obtain ⟨its, r, ⟨⟨cls, dd, data, sl⟩, ho, hc, n, hd⟩, hs⟩ := I.tuple hT
    simp only at hc hd
    subst hc hd
    refine wpAny_binaryOp_repeat_ref (T := "tuple") (U := "int") (by decide) ⟨_, ho, rfl⟩ (fun s' => typeIs_int s' 1 t) noFill_tuple_mul F.fills_int_mul F.slot_int_rmul repeat_tuple F.slot_int_index.lookup
      (call_meets F.slot_int_rmul (typeIs_int s 1 t) F.entry_int_rmul (F.args_int_rmul_2 _ _) (int_rmul_tuple 1 t l its.toArray n dd sl)
        ⟨ho, rfl, ⟨_, ho, rfl⟩, call_meets F.slot_tuple_mul ⟨_, ho, rfl⟩ F.entry_tuple_mul (F.args_tuple_mul_2 _ _) (tuple_mul1 l its.toArray n dd sl t) ⟨ho, ?_⟩⟩)
    exact ⟨.ref l, H, I, rfl, q⟩
  · exact op_repT pins s σ H _ _ v u Q I rx ry h
end
end L2.My
end
section
set_option Elab.async false
set_option linter.all false
set_option maxRecDepth 100000
set_option maxHeartbeats 8000000
/-! Own rules: sorted of whatever gives data that are alike. -/
namespace L2.My
open PySem PySem.Spec PyProof.Rows PySem.W
section
variable {prog : Program} {w : World} {A : Around} {E : Value → Shared → Prop} {s : Shared}
theorem sortedD_core {x : Value} {β : Type} {bs : List β} {enc : β → PyData} {Rv : Value → β → Prop} {R : Shared → Prop} {Q : Value → Shared → Prop}
    (hc : ∀ (Q' : List Value → Shared → Prop), (∀ s1 vs, (∀ b o, s.heap.get? b = some o → s1.heap.get? b = some o) → R s1 → EachIs Rv vs bs → Q' vs s1) → wpAny (model prog w) A.in1 (collect x) Q' E s)
    (hr : ∀ v b, Rv v b → b ∈ bs → ∃ as, Reads s.heap v (enc b) as) (hal : AllAlike (bs.map enc)) (hk : Sortable (bs.map enc)) (hL : bs.length ≤ sizeLine) (hu : ∀ b, b ∈ bs → A.units + 2 + (enc b).depth < cLine)
    (h : ∀ s1 h2 p (out : List Value) c, (∀ b o, s.heap.get? b = some o → s1.heap.get? b = some o) → R s1 → (∀ b o, s1.heap.get? b = some o → h2.get? b = some o) → s1.heap.objs.size ≤ p → h2.get? p = some (seqObj "list" out.toArray c) →
      EachIs Rv out (bs.mergeSort (dataLe false enc)) → Q (.ref p) { s1 with heap := h2 }) : wpAny (model prog w) A (call (.builtin "sorted") [x]) Q E s := by
  refine Calls.call_function_entry PyProof.Rows.kind_sorted PyProof.Rows.plain_sorted PyProof.Rows.entry_sorted (PyProof.Rows.args_sorted1 _) ?_
  unfold Builtin.«sorted»
  refine wpAny_bind (m := checkCount "sorted" 1 1 _) (wpAny_pure (wpAny_bind (hc _ fun s1 vs k1 r1 hvs => ?_)))
  have hl : vs.length ≤ sizeLine := by rw [hvs.length]; exact hL
  refine wpAny_bind (wpAny_newList ?_ hl)
  have hoL : (s1.heap.push (seqObj "list" vs.toArray 0)).get? s1.heap.objs.size = some (seqObj "list" vs.toArray 0) := Heap.get?_push_size _ rfl
  have k2 : ∀ b o, s.heap.get? b = some o → (s1.heap.push (seqObj "list" vs.toArray 0)).get? b = some o := fun b o e => Heap.get?_push_of_some _ (k1 b o e)
  have k3 : ∀ b o, s.heap.get? b = some o → (sortingHeap (s1.heap.push (seqObj "list" vs.toArray 0)) s1.heap.objs.size vs).get? b = some o := fun b o e => by
    have hb : b < s1.heap.objs.size := Heap.lt_size (k1 b o e)
    exact sortingHeap_old (Nat.ne_of_lt hb) (k2 b o e)
  have er : EachIs (fun v b => ∃ as, Reads (sortingHeap (s1.heap.push (seqObj "list" vs.toArray 0)) s1.heap.objs.size vs) v (enc b) as) vs bs := (each_mem hvs).mono fun v b ⟨r, hb⟩ => by
    obtain ⟨as, rr⟩ := hr v b r hb
    exact ⟨as, PyProof.Rows.Reads.keeps k3 rr⟩
  refine wpAny_bind (wpAny_holding (wpAny_call_entry PyProof.Rows.slot_list_sort ⟨_, hoL, rfl⟩ PyProof.Rows.entry_list_sort (list_sort_vals (s := { s1 with heap := s1.heap.push (seqObj "list" vs.toArray 0) }) (κ := dataKind (sortingHeap (s1.heap.push (seqObj "list" vs.toArray 0)) s1.heap.objs.size vs) (bs.map enc)) hoL
    (SortsAt.data (s := { s1 with heap := sortingHeap (s1.heap.push (seqObj "list" vs.toArray 0)) s1.heap.objs.size vs }) (each_map (R := fun v d => ∃ as, Reads (sortingHeap (s1.heap.push (seqObj "list" vs.toArray 0)) s1.heap.objs.size vs) v d as) enc er) hal hk (bound_map hu)) hl ⟨_, rfl, ?_⟩) (PyProof.Rows.args_list_sort _)))
  obtain ⟨c, hc'⟩ := PyProof.Rows.sortedHeap_at (vs := vs) (out := (sortVals (dataKind (sortingHeap (s1.heap.push (seqObj "list" vs.toArray 0)) s1.heap.objs.size vs) (bs.map enc)) false vs vs).toArray) hoL
  refine wpAny_pure ⟨_, rfl, h s1 _ s1.heap.objs.size _ c k1 r1 (fun b o e => ?_) (Nat.le_refl _) hc' (sortVals_data false hvs er hal)⟩
  have hb : b < s1.heap.objs.size := Heap.lt_size e
  rw [PyProof.Rows.sortedHeap_old (Nat.ne_of_lt hb) (by rw [size_push']; exact Nat.lt_succ_of_lt hb)]
  exact Heap.get?_push_of_some _ e
end
end L2.My
end
section
set_option Elab.async false
set_option linter.all false
set_option maxRecDepth 100000
set_option maxHeartbeats 8000000
/-! Own rules: sorted of lists and tuples of data. -/
namespace L2.My
open PySem PySem.Spec PyProof.Rows PySem.W
section
variable {prog : Program} {w : World} {A : Around} {E : Value → Shared → Prop} {s : Shared}
theorem collect_tupl {l : Addr} {vs : List Value} {Q : List Value → Shared → Prop} (hl : s.heap.IsTuple l vs.toArray)
    (h : Q vs { s with heap := (s.heap.push (seqObj "list" #[] 0)).update s.heap.objs.size (Obj.mapSeq (· ++ vs.toArray)) }) (hsz : vs.length ≤ sizeLine) :
    wpAny (model prog w) A (collect (.ref l)) Q E s := by
  obtain ⟨o, ho, hc, n, hd⟩ := id hl
  unfold collect
  refine wpAny_bind (wpAny_runValue (codeAny_builtin entry_proto_collect' ?_))
  show wpAny _ _ (do again (.builtin "list.__iadd__" ⟨[← newList [], .ref l], []⟩)) _ _ s
  refine wpAny_bind (wpAny_newList (wpAny_pure ⟨Code.quiet_builtin _ (by decide +kernel), codeAny_builtin entry_list_iadd' ?_⟩))
  show wpAny _ _ (Builtin.List.listExtendWith (.ref s.heap.objs.size) (.ref l) (.ref s.heap.objs.size)) _ _ { s with heap := s.heap.push (seqObj "list" #[] 0) }
  unfold Builtin.List.listExtendWith
  have ho' : (s.heap.push (seqObj "list" #[] 0)).get? l = some o := Heap.get?_push_of_some _ ho
  refine wpAny_bind (wpAny_typeOf (T := "tuple") ⟨o, ho', hc⟩ ?_)
  have ht : (Value.type "tuple" == Value.type "tuple") = true := by rfl
  rw [if_pos (by rw [ht]; simp)]
  refine wpAny_bind (listItems_at ho' hd ?_)
  refine wpAny_bind (listItems_at (xs := #[]) (n := 0) (Heap.get?_push_size _ rfl) rfl ?_)
  rw [if_neg (by simp)]
  refine wpAny_bind (listUpdate_at (xs := #[]) (n := 0) (Heap.get?_push_size _ rfl) rfl ?_ (Nat.zero_le _) (by show (#[] ++ vs.toArray).size ≤ sizeLine + 1; simp only [Array.size_append, List.size_toArray, List.length_nil]; omega))
  refine wpAny_pure ?_
  show wpAny (model prog w) A (do
      let o ← load s.heap.objs.size
      match o.data with
      | .seq xs _ => pure xs.toList
      | _ => unsupported "internal:collect") Q E { s with heap := (s.heap.push (seqObj "list" #[] 0)).update s.heap.objs.size (Obj.mapSeq (· ++ vs.toArray)) }
  refine wpAny_bind (wpAny_load (get?_update_seq (Heap.get?_push_size _ rfl) _) ?_)
  show wpAny _ _ (pure ((#[] : Array Value) ++ vs.toArray).toList) Q E _
  rw [show ((#[] : Array Value) ++ vs.toArray).toList = vs by simp]
  exact wpAny_pure h
end
/-- what is told of a sorted row of data -/
structure SortD {β : Type} (K : PySem.W.Frag) (H : Hp) (bs : List β) (enc : β → PyData) (Rel : V → β → Prop) (Q : VK) : Prop where
  dp : ∀ x b, Rel x b → Dp K H x (enc b)
  al : AllAlike (bs.map enc)
  so : Sortable (bs.map enc)
  de : ∀ b ∈ bs, (enc b).depth ≤ 40
  q : ∀ ys p, Paired Rel ys (bs.mergeSort (dataLe false enc)) → H p = none → Q (.ref p) (upd H p (.lst ys))
theorem each_of {β : Type} {Rel : V → β → Prop} {xs : List V} {its : List Value} {bs : List β} (r : Vals xs its) (p : Paired Rel xs bs) : EachIs (fun v b => ∃ x, RelV x v ∧ Rel x b) its bs := by
  induction p generalizing its with
  | nil => cases r; exact .nil
  | cons h _ ih =>
    cases r with
    | cons r1 rs => exact .cons ⟨_, r1, h⟩ (ih rs)
theorem of_each {β : Type} {Rel : V → β → Prop} {its : List Value} {bs : List β} (e : EachIs (fun v b => ∃ x, RelV x v ∧ Rel x b) its bs) : ∃ xs, Vals xs its ∧ Paired Rel xs bs := by
  induction e with
  | nil => exact ⟨[], .nil, .nil⟩
  | cons h _ ih =>
    obtain ⟨x, h1, h2⟩ := h
    obtain ⟨xs, a, b⟩ := ih
    exact ⟨x :: xs, .cons h1 a, .cons h2 b⟩
section
variable {X : Cx} {pins : List (Addr × Obj)} {σ : St} {H : Hp} {s : Shared} {E : Value → Shared → Prop}
/-- sorted of what gives these data -/
theorem sortedD_rule {β : Type} {bs : List β} {enc : β → PyData} {Rel : V → β → Prop} {R : Shared → Prop} {Q : VK} (I : Inv X pins σ H s) {x : Value} (hz : bs.length ≤ sizeLine) (hu : X.A.units + 64 < cLine) (q : SortD X.K H bs enc Rel Q)
    (hc : ∀ (Q' : List Value → Shared → Prop), (∀ s1 vs, (∀ b o, s.heap.get? b = some o → s1.heap.get? b = some o) → R s1 → EachIs (fun v b => ∃ x, RelV x v ∧ Rel x b) vs bs → Q' vs s1) → wpAny (model X.prog X.w) X.A.in1 (collect x) Q' E s)
    (inv : ∀ s1 h2 p (xs : List V) (its : List Value) c, (∀ b o, s.heap.get? b = some o → s1.heap.get? b = some o) → R s1 → (∀ b o, s1.heap.get? b = some o → h2.get? b = some o) → s1.heap.objs.size ≤ p → xs.length ≤ sizeLine → Vals xs its → h2.get? p = some (seqObj "list" its.toArray c) →
      H p = none ∧ Inv X pins σ (upd H p (.lst xs)) { s1 with heap := h2 }) :
    wpAny (model X.prog X.w) X.A (call (.builtin "sorted") [x]) (fun v s' => ∃ y H', Inv X pins σ H' s' ∧ RelV y v ∧ Q y H') E s := by
  refine sortedD_core (Rv := fun v b => ∃ x, RelV x v ∧ Rel x b) hc (fun v b ⟨y, ry, rb⟩ _ => Dp.reads I (enc b) y v (q.dp y b rb) ry) q.al q.so hz (fun b hb => by have := q.de b hb; omega) fun s1 h2 p out c k1 r1 k2 hp hat e => ?_
  obtain ⟨xs, hv, hpd⟩ := of_each e
  obtain ⟨hn, J⟩ := inv s1 _ p xs out c k1 r1 k2 hp (by rw [Paired.length hpd, List.length_mergeSort]; exact hz) hv hat
  exact ⟨.ref p, _, J, rfl, q.q xs p hpd hn⟩
def rSortLD (K : PySem.W.Frag) : List V → Hp → VK → Prop := fun vs H Q => ∃ (β : Type) (a : Addr) (xs : List V) (bs : List β) (enc : β → PyData) (Rel : V → β → Prop), vs = [V.ref a] ∧ SqL K H a xs ∧ Paired Rel xs bs ∧ SortD K H bs enc Rel Q
theorem cr_sortLD (hu : X.A.units + 64 < cLine) : CallR X (.builtin "sorted") (rSortLD X.K) := by
  intro pins s σ H vs us Q I r h
  obtain ⟨β, a, xs, bs, enc, Rel, rfl, hs, hp, q⟩ := h
  obtain ⟨its, rv, hl, hz⟩ := I.list hs
  rw [Vals.ref1 r]
  have hz' : bs.length ≤ sizeLine := by rw [← Paired.length hp]; exact hz
  refine sortedD_rule (R := fun s1 => ∃ h' tk, s1 = { s with heap := h', toks := tk } ∧ s.heap.objs.size ≤ h'.objs.size) I hz' hu q (fun Q' z => ?_) (fun s1 h2 p xs its c k1 r1 k2 hp hz2 hv hg => ?_)
  · refine collect_list hl.isList ?_ (by rw [← rv.length]; exact hz)
    refine z _ _ (fun b o e => ?_) ⟨_, _, rfl, ?_⟩ (each_of rv hp)
    · show ((s.heap.push (seqObj "list" #[] 0)).update s.heap.objs.size _).get? b = some o
      rw [Heap.get?_update_ne _ _ _ _ (Nat.ne_of_lt (Heap.lt_size e))]
      exact Heap.get?_push_of_some _ e
    · rw [Heap.size_update, size_push']; exact Nat.le_succ _
  · obtain ⟨h', tk, rfl, hz3⟩ := r1
    have hsz : s.heap.objs.size ≤ p := Nat.le_trans hz3 hp
    exact ⟨I.hok.fresh hsz, I.laid (t' := tk) (fun b o e => k2 b o (k1 b o e)) hsz ⟨hz2, its, c, hv, hg⟩⟩
def rSortTD (K : PySem.W.Frag) : List V → Hp → VK → Prop := fun vs H Q => ∃ (β : Type) (a : Addr) (xs : List V) (bs : List β) (enc : β → PyData) (Rel : V → β → Prop), vs = [V.ref a] ∧ SqT K H a xs ∧ Paired Rel xs bs ∧ SortD K H bs enc Rel Q
theorem cr_sortTD (hu : X.A.units + 64 < cLine) : CallR X (.builtin "sorted") (rSortTD X.K) := by
  intro pins s σ H vs us Q I r h
  obtain ⟨β, a, xs, bs, enc, Rel, rfl, hs, hp, q⟩ := h
  obtain ⟨its, rv, hl, hz⟩ := I.tuple hs
  rw [Vals.ref1 r]
  have hz' : bs.length ≤ sizeLine := by rw [← Paired.length hp]; exact hz
  refine sortedD_rule (R := fun s1 => ∃ h' tk, s1 = { s with heap := h', toks := tk } ∧ s.heap.objs.size ≤ h'.objs.size) I hz' hu q (fun Q' z => ?_) (fun s1 h2 p xs its c k1 r1 k2 hp hz2 hv hg => ?_)
  · refine collect_tupl hl ?_ (by rw [← rv.length]; exact hz)
    refine z _ _ (fun b o e => ?_) ⟨_, _, rfl, ?_⟩ (each_of rv hp)
    · show ((s.heap.push (seqObj "list" #[] 0)).update s.heap.objs.size _).get? b = some o
      rw [Heap.get?_update_ne _ _ _ _ (Nat.ne_of_lt (Heap.lt_size e))]
      exact Heap.get?_push_of_some _ e
    · rw [Heap.size_update, size_push']; exact Nat.le_succ _
  · obtain ⟨h', tk, rfl, hz3⟩ := r1
    have hsz : s.heap.objs.size ≤ p := Nat.le_trans hz3 hp
    exact ⟨I.hok.fresh hsz, I.laid (t' := tk) (fun b o e => k2 b o (k1 b o e)) hsz ⟨hz2, its, c, hv, hg⟩⟩
/-- sorted(d), d a dict keyed by tuples of ints and texts -/
def rSortKD (K : PySem.W.Frag) : List V → Hp → VK → Prop := fun vs H Q => ∃ (β : Type) (a : Addr) (kvs : List (List Key × V)) (bs : List β) (enc : β → PyData) (Rel : V → β → Prop), vs = [V.ref a] ∧ Rd H a (.dT kvs) ∧
  Paired (fun (kv : List Key × V) b => ∀ c, H c = some (.tup (kv.1.map kV)) → Rel (.ref c) b) kvs bs ∧ SortD K H bs enc Rel Q
theorem cr_sortKD (hc : X.calm = true) (hu : X.A.units + 64 < cLine) : CallR X (.builtin "sorted") (rSortKD X.K) := by
  intro pins s σ H vs us Q I r h
  obtain ⟨β, a, kvs, bs, enc, Rel, rfl, hd, hp, q⟩ := h
  rw [Vals.ref1 r]
  obtain ⟨z, hs, ks, pr, o, es, ep, ho, hx, hdt, he, hn⟩ := (show ObjOk X.prog X.w H s.heap a (.dT kvs) from hd.ok I.hok)
  have l1 : es.size = ks.length := by rw [← Array.length_toList, he, List.length_map]
  have l2 : kvs.length = ks.length := Paired.length pr
  have l3 : kvs.length = bs.length := Paired.length hp
  have ev : EachIs (fun v b => ∃ x, RelV x v ∧ Rel x b) ((ks.map (·.2.1)).map Value.ref) bs := by
    clear q hd z he hn l1 l2 l3
    induction pr generalizing bs with
    | nil => cases hp; exact .nil
    | cons h1 _ ih =>
      cases hp with
      | cons h2 hr => exact .cons ⟨.ref _, rfl, h2 _ h1.2.1⟩ (ih _ hr)
  refine sortedD_rule (R := fun s1 => ∃ h' tk, s1 = { s with heap := h', toks := tk }) I (by omega) hu q (fun Q' zz => ?_) (fun s1 h2 p xs its c k1 r1 k2 hp hz2 hv hg => ?_)
  · refine PySem.W.kdu_collect (kdl_raw hs hx hdt) (I.ok.hd hc) ho (by omega) fun h' tk acc kp it => ?_
    refine zz _ _ kp ⟨h', tk, rfl⟩ ?_
    have ea : acc.toList = (ks.map (·.2.1)).map Value.ref := by
      rw [List.map_map]
      refine List.ext_getElem? fun j => ?_
      rw [List.getElem?_map]
      have hes : es[j]? = (ks[j]?).map (entryOfKey (tupleKind (mixKind X.prog X.w))) := by rw [← Array.getElem?_toList, he, List.getElem?_map]
      cases hj : acc.toList[j]? with
      | none =>
        have z1 := List.getElem?_eq_none_iff.mp hj
        rw [Array.length_toList, it.1, l1] at z1
        rw [List.getElem?_eq_none z1]
        rfl
      | some v =>
        obtain ⟨en, hen, rfl⟩ := it.2 j v (by rw [← Array.getElem?_toList]; exact hj)
        rw [hes] at hen
        cases hb : ks[j]? with
        | none => rw [hb] at hen; cases hen
        | some b => rw [hb] at hen; cases hen; rfl
    rw [ea]
    exact ev
  · obtain ⟨h', tk, rfl⟩ := r1
    have I1 : Inv X pins σ H { s with heap := h', toks := tk } := I.kept k1
    exact ⟨I1.hok.fresh hp, I1.laid (t' := tk) k2 hp ⟨hz2, its, c, hv, hg⟩⟩
end
end L2.My
end
section
set_option Elab.async false
set_option linter.all false
set_option maxRecDepth 100000
set_option maxHeartbeats 4000000
/-! Own rules: tuples of which it is known that their object is plain (so that their methods may be called). -/
namespace L2.My
open PySem PySem.Spec PyProof.Rows
/-- a plain tuple -/
def TF (H : Hp) (a : Addr) (xs : List V) : Prop := ∃ o, o.dict = none ∧ H a = some (.frz o (.tup xs))
theorem TF.same {H H' : Hp} {a : Addr} {xs : List V} (h : TF H a xs) (s : Same H H') : TF H' a xs := by
  obtain ⟨o, h1, h2⟩ := h
  exact ⟨o, h1, s _ _ h2⟩
theorem TF.sq {K : PySem.W.Frag} {H : Hp} {a : Addr} {xs : List V} (h : TF H a xs) : SqT K H a xs := by
  obtain ⟨o, h1, h2⟩ := h
  exact .inl (.inr ⟨o, h2⟩)
theorem TF.there {H : Hp} {a : Addr} {xs : List V} (h : TF H a xs) : H a ≠ none := by
  obtain ⟨o, h1, h2⟩ := h
  rw [h2]; simp
theorem TF.one {H : Hp} {a : Addr} {xs ys : List V} (h : TF H a xs) (k : TF H a ys) : xs = ys := by
  obtain ⟨o, h1, h2⟩ := h
  obtain ⟨o', k1, k2⟩ := k
  rw [h2] at k2
  cases k2
  rfl
section
variable {X : Cx}
/-- isinstance of things, of a plain tuple too -/
def rIsF : List V → Hp → VK → Prop := fun xs H Q => rIsTh xs H Q ∨ ∃ a ys, xs = [.ref a, .ty "tuple"] ∧ TF H a ys ∧ Q (.bl true) H
theorem call_isF : CallR X (.builtin "isinstance") rIsF := by
  intro pins s σ H xs us Q I r h
  rcases h with h | ⟨a, ys, rfl, ⟨o, _, ho⟩, q⟩
  · exact call_isTh pins s σ H _ us Q I r h
  · exact call_isi pins s σ H _ us Q I r ⟨_, _, _, _, _, rfl, .ty _, .fTuple ho, kit_ty (kitB_all "tuple" (by decide) "tuple" (by decide)), q⟩
def tTupF (t : TA) : TE := fun σ H Q => t σ H fun xs H1 => xs.length ≤ sizeLine ∧ ∀ p o, o.dict = none → H1 p = none → Q (.ref p) (upd H1 p (.frz o (.tup xs)))
variable {es : List Expr} {t : TA} {pos : Pos}
theorem pe_tupF {x1} (h : PA X es t) : PE X (.Tuple es x1 pos) (tTupF t) := by
  refine ⟨fun pins s σ H Q I hq => ?_⟩
  refine wpAny_Tuple_spliced (thn (h.run pos pins s σ H _ I hq) fun us s1 ⟨xs, H1, I1, r, z, q⟩ => ⟨by rw [← r.length]; exact z, ?_⟩)
  have hf : H1 s1.heap.objs.size = none := I1.hok.fresh (Nat.le_refl _)
  refine ⟨.ref s1.heap.objs.size, upd H1 s1.heap.objs.size (.frz _ (.tup xs)), I1.laid (t' := s1.toks) (fun b u e => Heap.get?_push_of_some _ e) (Nat.le_refl _) ⟨Heap.get?_push_size _ rfl, ?_⟩, rfl, q _ _ rfl hf⟩
  exact ⟨z, us, r, ⟨_, Heap.get?_push_size _ rfl, rfl, _, rfl⟩⟩
def rCatF (K : PySem.W.Frag) : R2 := fun x y H Q => ∃ a b xs ys, x = .ref a ∧ y = .ref b ∧ SqT K H a xs ∧ SqT K H b ys ∧ xs.length + ys.length ≤ sizeLine ∧
  (xs = [] → Q (.ref b) H) ∧ (xs ≠ [] → ys = [] → Q (.ref a) H) ∧ (xs ≠ [] → ys ≠ [] → ∀ p o, o.dict = none → H p = none → Q (.ref p) (upd H p (.frz o (.tup (xs ++ ys)))))
theorem op_catF : OpR X (binaryOp .Add) (rCatF X.K) := by
  intro pins s σ H x y v u Q I rx ry h
  obtain ⟨a, b, xs, ys, rfl, rfl, ha, hb, hz, q0, q1, q2⟩ := h
  by_cases hx : xs = []
  · subst hx
    cases rx
    cases ry
    obtain ⟨its, r1, p1, _⟩ := I.tuple ha
    obtain ⟨its2, r2, p2, _⟩ := I.tuple hb
    cases r1
    exact cat_tup0 p1 p2 ⟨.ref b, H, I, rfl, q0 rfl⟩
  · cases rx
    cases ry
    obtain ⟨its, r1, p1, _⟩ := I.tuple ha
    obtain ⟨its2, r2, p2, _⟩ := I.tuple hb
    refine HT.cat_tup p1 p2 (fun z => hx (r1.nil_iff.mp z)) (fun z => ⟨.ref a, H, I, rfl, q1 hx (r2.nil_iff.mp z)⟩) (fun z => ?_) (by rw [← r1.length, ← r2.length]; exact hz)
    refine ⟨.ref s.heap.objs.size, _, I.laid (t' := s.toks) (o := .frz _ (.tup (xs ++ ys))) (fun b ob q => Heap.get?_push_of_some _ q) (Nat.le_refl _) ⟨Heap.get?_push_size _ rfl, ?_⟩, rfl, q2 hx (fun w => z (r2.nil_iff.mpr w)) _ _ rfl (I.hok.fresh (Nat.le_refl _))⟩
    exact ⟨by rw [List.length_append]; exact hz, _, r1.append r2, IsTup.new _ _⟩
def kTupF (K : PySem.W.Frag) (x : V) (H : Hp) (Q : VK) : Prop := ∃ p xs, x = .ref p ∧ SqL K H p xs ∧ ∀ q o, o.dict = none → H q = none → Q (.ref q) (upd H q (.frz o (.tup xs)))
theorem rl_tupF (pins : List (Addr × Obj)) (s : Shared) (σ : St) (H : Hp) (x : V) (v : Value) (Q : VK) (I : Inv X pins σ H s) (r : RelV x v) (h : kTupF X.K x H Q) :
    wpAny (model X.prog X.w) X.A (call (.type "tuple") [v]) (EP X pins σ Q) X.xe s := by
  obtain ⟨p, xs, rfl, hs, q⟩ := h
  obtain rfl : v = .ref p := r
  obtain ⟨its, rv, pl, hz⟩ := I.list hs
  refine call_tuple_list pl.isList (fun h' hk => ?_) (by rw [List.size_toArray, ← rv.length]; exact hz)
  have I1 : Inv X pins σ H { s with heap := h' } := I.kept (t' := s.toks) hk
  have I2 : Inv X pins σ (upd H h'.objs.size (.frz _ (.tup xs))) { s with heap := h'.push { cls := .type "tuple", data := .seq its.toArray } } :=
    I1.laid (t' := s.toks) (fun b o e => Heap.get?_push_of_some _ e) (Nat.le_refl _) ⟨Heap.get?_push_size _ rfl, show ObjOk X.prog X.w _ _ _ (.tup xs) from ⟨hz, its, rv, IsTup.new _ _⟩⟩
  exact ⟨.ref h'.objs.size, _, I2, rfl, q _ _ rfl (I1.hok.fresh (Nat.le_refl _))⟩
theorem pe_tupleF {a : Expr} {ta : TE} {p pos : Pos} (hg : Gl X "tuple") (hm : X.mg "tuple" = none) (ha : PE X a ta) (na : starEach [a] X.env = (false, eval a X.env) :: starEach [] X.env := by rfl) :
    PE X (.Call (.Name "tuple" p) [a] [] pos) (tThen ta (kTupF X.K)) := by
  refine ⟨fun pins s σ H Q I h => ?_⟩
  exact Call_ (ld_blt I hg hm boot_tuple (PyProof.Rows.callWith_type1 (one_arg ha I h (fun v s2 x H2 I2 r q => rl_tupF pins s2 σ H2 x v Q I2 r q) na) na))
/-- a method of a plain tuple -/
def tBMF (K : PySem.W.Frag) (r : V → List V → Hp → VK → Prop) (to : TE) (t : TA) : TE := fun σ H Q => to σ H fun x H1 => (∃ a xs, x = .ref a ∧ TF H1 a xs) ∧ t σ H1 fun xs H2 => r x xs H2 Q
variable {o e : Expr} {to : TE} {name : Str} {apos cpos : Pos} {id : String} {r : V → List V → Hp → VK → Prop}
theorem pe_bmF (pa : PlainAttrs "tuple") (slot : Slot "tuple" name id) (hty : typeOf (.builtin id) = pure (.type "method_descriptor")) (hm : MtR X id r) (ho : PE X o to) (ha : PA X (e :: es) t)
    (hbase : attributeBase o name X.env (eval o X.env) = eval o X.env := by rfl)
    (hfew : ((backTo cpos (starEach (e :: es) X.env)).all (fun x => !x.1) && (backToKw cpos (keywordEach [] X.env)).all (fun x => x.1.isSome)
      && decide ((e :: es).length + ([] : List Keyword).length + (if ([] : List Keyword).isEmpty then 0 else 1) < 30)) = true := by rfl)
    (hline : (apos.endLine == cpos.line) = true := by rfl) (hs : starEach (e :: es) X.env = (false, eval e X.env) :: starEach es X.env := by rfl) (hplain : (backTo cpos (starEach es X.env)).any (·.1) = false := by rfl) :
    PE X (.Call (.Attribute o name apos) (e :: es) [] cpos) (tBMF X.K r to t) := by
  refine ⟨fun pins s σ H Q I h => ?_⟩
  refine wpAny_Call_method_late hbase hfew hline rfl (thn (ho.run pins s σ H _ I h) fun v s1 ⟨x, H1, I1, r1, ty, q1⟩ => ?_)
  obtain ⟨a, xs, rfl, ob, hd, hob⟩ := ty
  obtain rfl : v = .ref a := r1
  obtain ⟨g1, _, its, _, o', ho', hc', _⟩ := (show ObjOk X.prog X.w H1 s1.heap a (.frz ob (.tup xs)) from I1.hok a _ hob)
  refine ⟨"tuple", id, pa, slot, hty, ⟨o', ho', hc'⟩, fun b eb => ?_, ?_⟩
  · cases eb
    exact ⟨ob, g1, hd⟩
  have hA := ha.run cpos pins s1 σ H1 _ I1 q1
  rw [hs] at hA ⊢
  refine Calls.callWith_builtin (by show (false || (backTo cpos (starEach es X.env)).any (·.1)) = false; rw [hplain] <;> rfl) (Calls.evalArgs_plain ?_)
  exact thn hA fun us s2 ⟨vs, H2, I2, r2, q2⟩ => hm pins s2 σ H2 (V.ref a) vs (Value.ref a) us Q I2 rfl r2 q2
end
end L2.My
end
section
set_option Elab.async false
set_option linter.all false
set_option maxRecDepth 100000
set_option maxHeartbeats 4000000
namespace L2.My
open PySem PySem.Spec PyProof.Rows
def top (i : Nat) : Stmt := PySem.Challenge.pw_strangerspost_k10_whole_trees_that_grow.main.body.getD i (.Pass ⟨0, 0, 0, 0⟩)
abbrev mT (i : Nat) : Stmt := inClass (top 24) i
abbrev mB (i : Nat) : Stmt := inClass (top 8) i
/-- a word of letters -/
def wordS (z : Str) : Prop := 1 ≤ z.length ∧ z.length ≤ 12 ∧ z.cps.toList.all (fun c => decide (97 ≤ c) && decide (c ≤ 122)) = true
/-- all tuples stand -/
def TK (H H' : Hp) : Prop := (∀ p xs, H p = some (.tup xs) → H' p = some (.tup xs)) ∧ ∀ p o xs, H p = some (.frz o (.tup xs)) → H' p = some (.frz o (.tup xs))
theorem TK.refl {H : Hp} : TK H H := ⟨fun _ _ h => h, fun _ _ _ h => h⟩
theorem TK.trans {H H1 H2 : Hp} (a : TK H H1) (b : TK H1 H2) : TK H H2 := ⟨fun p xs h => b.1 p xs (a.1 p xs h), fun p o xs h => b.2 p o xs (a.2 p o xs h)⟩
theorem TK.same {H H' : Hp} (s : Same H H') : TK H H' := ⟨fun _ _ h => s _ _ h, fun _ _ _ h => s _ _ h⟩
theorem TK.upd {H : Hp} {a : Addr} {o : HO} {u : HO} (h : H a = some u) (hu : ∀ xs, u ≠ .tup xs) (hf : ∀ o v, u ≠ .frz o v := by intro _ _ e; cases e) : TK H (upd H a o) := ⟨fun p xs e => by
  rw [upd_ne (fun z => by rw [z, h] at e; exact hu xs (Option.some.inj e))]
  exact e, fun p o xs e => by
  rw [upd_ne (fun z => by rw [z, h] at e; exact hf _ _ (Option.some.inj e))]
  exact e⟩
theorem TK.bl {L : List Addr} {H H' : Hp} (s : BL L H H') (hL : ∀ p ∈ L, ∀ xs, H p ≠ some (.tup xs)) (hF : ∀ p ∈ L, ∀ o u, H p ≠ some (.frz o u)) : TK H H' := ⟨fun p xs e => s p _ (fun z => hL p z xs e) e, fun p o xs e => s p _ (fun z => hF p z _ _ e) e⟩
theorem TF.tk {H H' : Hp} {a : Addr} {xs : List V} (h : TF H a xs) (t : TK H H') : TF H' a xs := by
  obtain ⟨o, h1, h2⟩ := h
  exact ⟨o, h1, t.2 _ _ _ h2⟩
/-! ### the text's names -/
structure Tx (mg : Str → Option Value) : Prop where
  isi : mg "isinstance" = none
  int_ : mg "int" = none
  bool_ : mg "bool" = none
  str_ : mg "str" = none
  len_ : mg "len" = none
  all_ : mg "all" = none
  tuple_ : mg "tuple" = none
  list_ : mg "list" = none
  range_ : mg "range" = none
  rev_ : mg "reversed" = none
  repr_ : mg "repr" = none
  ml : ∃ t, mg "MOST_LETTERS" = some (.int 12 t)
  mh : ∃ t, mg "MOST_HEIGHT" = some (.int 8 t)
/-- a def of the module that may be called -/
structure Cal (P : Program) (w : World) (K : PySem.W.Frag) (mg : Str → Option Value) (base : Heap) (k : Nat) (x : Str) (ps : List Str) (sp : Sp) where
  f : Addr
  fd : FuncData
  G : FnOk P w K mg base CX0 k f fd ps sp
  kp : PySem.W.keepIn K (.ref f) = true
  g : mg x = some (.ref f)
  b : Binds K fd ps []
/-- a method of a class that may be called -/
structure Met (P : Program) (w : World) (K : PySem.W.Frag) (mg : Str → Option Value) (base : Heap) (k : Nat) (C : Addr) (x : Str) (ps : List Str) (sp : Sp) where
  f : Addr
  fd : FuncData
  c : Cls K C
  m : Meth K C x f
  G : FnOk P w K mg base CX0 k f fd ps sp
  b : Binds K fd ps []
/-- a class of which objects may be made -/
structure Mak (P : Program) (w : World) (K : PySem.W.Frag) (mg : Str → Option Value) (base : Heap) (k : Nat) (C : Addr) (x : Str) (ps : List Str) (sp : Sp) where
  f : Addr
  fd : FuncData
  M : Mk K C f
  G : FnOk P w K mg base CX0 k f fd ps sp
  g : mg x = some (.ref C)
  b : Binds K fd ps []
section
variable {X : Cx} {k j : Nat} {x : Str} {ps : List Str} {sp : Sp} {C : Addr} {p pos apos : Pos} {e o : Expr} {es : List Expr} {t : TA} {to : TE}
theorem pe_c (c : Cal X.prog X.w X.K X.mg X.base k x ps sp) (hr : Room j X.A) (hk : k ≤ j) (hg : Gl X x) (ha : PA X (e :: es) t) (hdb : (x == ("__debug__" : Str)) = false := by decide)
    (he : starEach (e :: es) X.env = (false, eval e X.env) :: starEach es X.env := by rfl) (hpl : (backTo pos (starEach es X.env)).any (·.1) = false := by rfl) : PE X (.Call (.Name x p) (e :: es) [] pos) (tCall sp [] E0 t) :=
  pe_call c.G (hr.mono hk) hg c.g c.kp c.b .nil pass0 ha hdb he hpl
end
theorem sIx1 (n d : Nat) : HT.sIx n d (some 1) = min 1 n := HT.sIx_nat n d 1
theorem Paired.at {α β : Type} {R : α → β → Prop} {as : List α} {bs : List β} (h : Paired R as bs) {i : Nat} {b : β} (hb : bs[i]? = some b) : ∃ a, as[i]? = some a ∧ R a b := by
  induction h generalizing i with
  | nil => simp at hb
  | @cons x y xs ys r t ih =>
    cases i with
    | zero => simp only [List.getElem?_cons_zero, Option.some.injEq] at hb; subst hb; exact ⟨x, rfl, r⟩
    | succ i => rw [List.getElem?_cons_succ] at hb; obtain ⟨a, ha, hr⟩ := ih hb; exact ⟨a, by rw [List.getElem?_cons_succ]; exact ha, hr⟩
theorem Paired.at' {α β : Type} {R : α → β → Prop} {as : List α} {bs : List β} (h : Paired R as bs) {i : Nat} {a : α} (ha : as[i]? = some a) : ∃ b, bs[i]? = some b ∧ R a b := by
  induction h generalizing i with
  | nil => simp at ha
  | @cons x y xs ys r t ih =>
    cases i with
    | zero => simp only [List.getElem?_cons_zero, Option.some.injEq] at ha; subst ha; exact ⟨y, rfl, r⟩
    | succ i => rw [List.getElem?_cons_succ] at ha; obtain ⟨b, hb, hr⟩ := ih ha; exact ⟨b, by rw [List.getElem?_cons_succ]; exact hb, hr⟩
theorem Paired.len {α β : Type} {R : α → β → Prop} {as : List α} {bs : List β} (h : Paired R as bs) : as.length = bs.length := by
  induction h with
  | nil => rfl
  | cons _ _ ih => rw [List.length_cons, List.length_cons, ih]
theorem ref_at {as : List Addr} {i : Nat} {v : V} (h : (as.map V.ref)[i]? = some v) : ∃ a, as[i]? = some a ∧ v = .ref a := by
  rw [List.getElem?_map] at h
  cases e : as[i]? with
  | none => rw [e] at h; cases h
  | some a => rw [e] at h; exact ⟨a, rfl, (Option.some.inj h).symm⟩
theorem all_tt (n : Nat) : ((List.range n).map fun _ => true).all id = true := by simp
theorem BL.put {L : List Addr} {H G : Hp} {p : Addr} {o : HO} (b : BL L H G) (h : H p = none) : BL L H (L2.upd G p o) := fun q u hq e => by
  rw [upd_ne (fun z => by rw [z, h] at e; cases e)]
  exact b q u hq e
theorem BL.nw {L : List Addr} {H G : Hp} {p : Addr} (b : BL L H G) (h : G p = none) (hp : p ∉ L) : H p = none := by
  cases e : H p with
  | none => rfl
  | some o => rw [b _ _ hp e] at h; cases h
theorem Paired.snoc {α β : Type} {R : α → β → Prop} {as : List α} {bs : List β} {a : α} {b : β} (h : Paired R as bs) (r : R a b) : Paired R (as ++ [a]) (bs ++ [b]) := by
  induction h with
  | nil => exact .cons r .nil
  | cons r' _ ih => exact .cons r' ih
theorem take_snoc {α : Type} {l : List α} {i : Nat} {a : α} (h : l[i]? = some a) : l.take (i + 1) = l.take i ++ [a] := by
  rw [List.take_add_one, h]; rfl
theorem same_put {H G : Hp} {p : Addr} {o : HO} (b : Same H G) (h : H p = none) : Same H (upd G p o) := fun q u e => by
  rw [upd_ne (fun z => by rw [z, h] at e; cases e)]
  exact b q u e
theorem paired_app {α β : Type} {R : α → β → Prop} {as cs : List α} {bs ds : List β} (h : Paired R as bs) (k : Paired R cs ds) : Paired R (as ++ cs) (bs ++ ds) := by
  induction h with
  | nil => exact k
  | cons r _ ih => exact .cons r ih
theorem seq_use {t u : TS} {D : Ends} {σ : St} {H : Hp} (Pm : St → Hp → Prop) (h2 : ∀ σ' H', Pm σ' H' → u D σ' H') (h1 : (∀ σ' H', Pm σ' H' → u D σ' H') → t { D with nx := u D } σ H) : tSeq t u D σ H := h1 h2
end L2.My
end
section
set_option Elab.async false
set_option linter.all false
set_option maxRecDepth 100000
set_option maxHeartbeats 4000000
/-! The law's box: a dict of what was drawn. -/
namespace L2.My
open PySem PySem.Spec PyProof.Rows
abbrev sMixd : Stmt := top 32
abbrev sBox : Stmt := top 33
abbrev sRefill : Stmt := top 34
abbrev sDraw : Stmt := top 35
theorem seqL {K : PySem.W.Frag} {H H' : Hp} {a : Addr} {xs : List V} (e : Same H H') (h : SqL K H a xs) : SqL K H' a xs :=
  h.elim (fun h => .inl (h.elim (fun h => .inl (e _ _ h)) fun ⟨o, h⟩ => .inr ⟨o, e _ _ h⟩)) fun h => .inr h
theorem u1' {k : Nat} {A : Around} (h : Room k A) : A.units + 1 < cLine := by have := h.un; omega
def boxL (g : Addr) (at' rest many : Int) (great : Bool) (all : Int) : List (Key × V) := [(.inr "cells", .ref g), (.inr "at", .int at'), (.inr "rest", .int rest), (.inr "many", .int many), (.inr "great", .bl great), (.inr "all", .int all)]
def BoxAt (H : Hp) (b g : Addr) : Prop := ∃ (ns : List Int) (at' rest many all : Int) (great : Bool), H b = some (.dK (boxL g at' rest many great all)) ∧ H g = some (.lst (ns.map V.int)) ∧ 0 ≤ at' ∧ 0 ≤ rest
theorem BoxAt.ne {H : Hp} {b g : Addr} (h : BoxAt H b g) : g ≠ b := fun e => by
  obtain ⟨_, _, _, _, _, _, h1, h2, _⟩ := h
  rw [e, h1] at h2
  cases h2
theorem BoxAt.tk {H H' : Hp} {b g : Addr} (h : BoxAt H b g) (s : BL [b] H H') : TK H H' := by
  obtain ⟨_, _, _, _, _, _, h1, _⟩ := h
  exact .bl s (fun p hp xs e => by rw [List.mem_singleton.mp hp, h1] at e; cases e) (fun p hp o u e => by rw [List.mem_singleton.mp hp, h1] at e; cases e)
theorem BoxAt.same {H H' : Hp} {b g : Addr} (h : BoxAt H b g) (s : Same H H') : BoxAt H' b g := by
  obtain ⟨ns, a1, r, m, al, gr, h1, h2, h3⟩ := h
  exact ⟨ns, a1, r, m, al, gr, s _ _ h1, s _ _ h2, h3⟩
theorem BoxAt.put {H : Hp} {b g D : Addr} {o : HO} (h : BoxAt H b g) (hb : D ≠ b) (hg : D ≠ g) : BoxAt (L2.upd H D o) b g := by
  obtain ⟨ns, a1, r, m, al, gr, h1, h2, h3⟩ := h
  exact ⟨ns, a1, r, m, al, gr, by rw [upd_ne (Ne.symm hb)]; exact h1, by rw [upd_ne (Ne.symm hg)]; exact h2, h3⟩
theorem BoxAt.nb {H : Hp} {b g D : Addr} (h : BoxAt H b g) (n : H D = none) : D ≠ b := fun e => by
  obtain ⟨_, _, _, _, _, _, h1, _⟩ := h
  rw [e, h1] at n; cases n
theorem BoxAt.ng {H : Hp} {b g D : Addr} (h : BoxAt H b g) (n : H D = none) : D ≠ g := fun e => by
  obtain ⟨_, _, _, _, _, _, _, h2, _⟩ := h
  rw [e, h2] at n; cases n
section
variable {H : Hp} {b g : Addr} {at' rest many all x : Int} {great y : Bool}
theorem bx_cells (hb : H b = some (.dK (boxL g at' rest many great all))) : DGet H b (.str "cells") (some (.ref g)) := .inl ⟨_, .inr "cells", .inl hb, rfl, rfl⟩
theorem bx_at (hb : H b = some (.dK (boxL g at' rest many great all))) : DGet H b (.str "at") (some (.int at')) := .inl ⟨_, .inr "at", .inl hb, rfl, rfl⟩
theorem bx_rest (hb : H b = some (.dK (boxL g at' rest many great all))) : DGet H b (.str "rest") (some (.int rest)) := .inl ⟨_, .inr "rest", .inl hb, rfl, rfl⟩
theorem bx_many (hb : H b = some (.dK (boxL g at' rest many great all))) : DGet H b (.str "many") (some (.int many)) := .inl ⟨_, .inr "many", .inl hb, rfl, rfl⟩
theorem bx_great (hb : H b = some (.dK (boxL g at' rest many great all))) : DGet H b (.str "great") (some (.bl great)) := .inl ⟨_, .inr "great", .inl hb, rfl, rfl⟩
theorem bx_all (hb : H b = some (.dK (boxL g at' rest many great all))) : DGet H b (.str "all") (some (.int all)) := .inl ⟨_, .inr "all", .inl hb, rfl, rfl⟩
theorem bp_at (hb : H b = some (.dK (boxL g at' rest many great all))) : DPut H b (.str "at") (.int x) (upd H b (.dK (boxL g x rest many great all))) := .inl ⟨_, .inr "at", hb, rfl, by show 6 < sizeLine; decide, rfl⟩
theorem bp_rest (hb : H b = some (.dK (boxL g at' rest many great all))) : DPut H b (.str "rest") (.int x) (upd H b (.dK (boxL g at' x many great all))) := .inl ⟨_, .inr "rest", hb, rfl, by show 6 < sizeLine; decide, rfl⟩
theorem bp_many (hb : H b = some (.dK (boxL g at' rest many great all))) : DPut H b (.str "many") (.int x) (upd H b (.dK (boxL g at' rest x great all))) := .inl ⟨_, .inr "many", hb, rfl, by show 6 < sizeLine; decide, rfl⟩
theorem bp_great (hb : H b = some (.dK (boxL g at' rest many great all))) : DPut H b (.str "great") (.bl y) (upd H b (.dK (boxL g at' rest many y all))) := .inl ⟨_, .inr "great", hb, rfl, by show 6 < sizeLine; decide, rfl⟩
theorem bp_all (hb : H b = some (.dK (boxL g at' rest many great all))) : DPut H b (.str "all") (.int x) (upd H b (.dK (boxL g at' rest many great x))) := .inl ⟨_, .inr "all", hb, rfl, by show 6 < sizeLine; decide, rfl⟩
end
def spMixd : Sp := fun vs H Q _ => ∃ i j : Int, vs = [.int i, .int j] ∧ ∀ r : Int, 0 ≤ r → r < 2147483399 → Q (.int r) H
def spBox (K : PySem.W.Frag) : Sp := fun vs H Q _ => ∃ (a : Addr) (ns : List Int), vs = [.ref a] ∧ SqL K H a (ns.map V.int) ∧ ∀ H' b g, Same H H' → BoxAt H' b g → Q (.ref b) H'
def spRefill : Sp := fun vs H Q _ => ∃ (b g : Addr), vs = [.ref b] ∧ BoxAt H b g ∧ ∀ H', BL [b] H H' → BoxAt H' b g → Q .non H'
def spDraw : Sp := fun vs H Q _ => ∃ (b g : Addr) (m : Int), vs = [.ref b, .int m] ∧ BoxAt H b g ∧ 0 < m ∧ m.natAbs < 2 ^ 200 ∧ ∀ H' r, BL [b] H H' → BoxAt H' b g → 0 ≤ r → r < m → Q (.int r) H'
section
variable {P : Program} {w : World} {K : PySem.W.Frag} {mg : Str → Option Value} {base : Heap}
theorem scMixd : FnScope ["number", "place"] ["number", "place"] (defScope sMixd) := ⟨rfl, rfl, rfl, by decide +kernel, rfl, by decide +kernel, by decide +kernel⟩
theorem ok_mixd {f : Addr} {fd : FuncData} {k : Nat} (F : Fun K "_law_mixed" "_law_mixed" sMixd f fd) (T : Tx mg) : FnOk P w K mg base CX0 (k + 1) f fd ["number", "place"] spMixd := by
  refine F.ok scMixd (fun vs H Q E h => ?_) (fun cdv A outer s H vs Q E hr h => ?_)
  · obtain ⟨i, j, rfl, _⟩ := h
    rfl
  · obtain ⟨i, j, rfl, q⟩ := h
    refine ⟨_, (pss_cons (ps_set (i := 0) scMixd.nd rfl (Or.inl rfl) (pe_op op_mod (pe_callTy call_int1 (by rfl) T.int_ (by decide +kernel) (pa_cons (pe_op op_mul (pe_op op_add (pe_op op_add (pv 0) (pe_op op_mul pe_int (pv 1))) pe_int) pe_int) pa_nil)) pe_int)) (pss_cons (ps_set (i := 0) scMixd.nd rfl (Or.inl rfl) (pe_op op_mod (pe_callTy call_int1 (by rfl) T.int_ (by decide +kernel) (pa_cons (pe_op op_mul (pv 0) (pe_op op_add (pe_op op_fdiv (pv 0) pe_int) pe_int)) pa_nil)) pe_int)) (pss_one (ps_ret (pe_op op_mod (pe_callTy call_int1 (by rfl) T.int_ (by decide +kernel) (pa_cons (pe_op op_mul (pv 0) (pe_op op_add (pe_op op_fdiv (pv 0) pe_int) pe_int)) pa_nil)) pe_int))))), ?_⟩
    refine ⟨_, rfl, _, rfl, _, _, rfl, rfl, .inl ⟨by decide, by decide⟩, _, _, rfl, rfl, _, _, rfl, rfl, _, _, rfl, rfl, .inr ⟨by decide, by decide⟩, .inl ⟨_, rfl, _, _, rfl, rfl, (by show (0 : Int) < 2147483647; decide), ?_⟩⟩
    generalize hn1 : ((i + 7919 * j + 1) * 48271 % 2147483647 : Int) = n1
    have r1 : 0 ≤ n1 ∧ n1 < 2147483647 := by
      rw [← hn1]
      exact mod_in (by decide)
    refine ⟨_, rfl, _, rfl, _, _, rfl, rfl, ⟨by decide, by decide⟩, _, _, rfl, rfl, _, _, rfl, rfl, .inl ⟨by omega, by omega⟩, .inl ⟨_, rfl, _, _, rfl, rfl, (by show (0 : Int) < 2147483647; decide), ?_⟩⟩
    generalize hn2 : (n1 * (n1 / 1009 + 69621) % 2147483647 : Int) = n2
    have r2 : 0 ≤ n2 ∧ n2 < 2147483647 := by
      rw [← hn2]
      exact mod_in (by decide)
    refine ⟨_, rfl, _, rfl, _, _, rfl, rfl, ⟨by decide, by decide⟩, _, _, rfl, rfl, _, _, rfl, rfl, .inl ⟨by omega, by omega⟩, .inl ⟨_, rfl, _, _, rfl, rfl, (by show (0 : Int) < 2147483399; decide), ?_⟩⟩
    exact q _ (mod_in (by decide)).1 (mod_in (by decide)).2
theorem scBox : FnScope ["script"] ["script"] (defScope sBox) := ⟨rfl, rfl, rfl, by decide +kernel, rfl, by decide +kernel, by decide +kernel⟩
theorem ok_box {f : Addr} {fd : FuncData} {k : Nat} (F : Fun K "_law_box" "_law_box" sBox f fd) (T : Tx mg) : FnOk P w K mg base CX0 (k + 1) f fd ["script"] (spBox K) := by
  refine F.ok scBox (fun vs H Q E h => ?_) (fun cdv A outer s H vs Q E hr h => ?_)
  · obtain ⟨a, ns, rfl, _⟩ := h
    rfl
  · obtain ⟨a, ns, rfl, hS, q⟩ := h
    refine ⟨_, (pss_one (ps_ret (pe_disp (pps_cons pe_str (pe_callTy call_list_of (by rfl) T.list_ (by decide +kernel) (pa_cons (pv 0) pa_nil)) (pps_cons pe_str pe_int (pps_cons pe_str pe_int (pps_cons pe_str pe_int (pps_cons pe_str pe_bl (pps_cons pe_str pe_int pps_nil)))))) (by rfl) (by rfl) (fun z => by cases z) (by decide)))), ?_⟩
    refine fun p np => ?_
    have s1 := same_upd (o := HO.dK []) np
    refine ⟨_, rfl, a, _, rfl, .inl (seqL s1 hS), fun l nl => ?_⟩
    have s2 := same_upd (o := HO.lst (ns.map V.int)) nl
    have ngp : l ≠ p := fun e => by rw [e, upd_same] at nl; cases nl
    refine ⟨s2 _ _ upd_same, boxL l 0 0 0 false 0, rfl, by show 6 ≤ 15; decide, ?_⟩
    refine q _ p l (same_put (s1.trans s2) np) ⟨ns, 0, 0, 0, 0, false, upd_same, ?_, by decide, by decide⟩
    rw [upd_ne ngp]
    exact upd_same
theorem scRefill : FnScope ["box", "cell"] ["box"] (defScope sRefill) := ⟨rfl, rfl, rfl, by decide +kernel, rfl, by decide +kernel, by decide +kernel⟩
theorem ok_refill {f : Addr} {fd : FuncData} {k : Nat} (F : Fun K "_law_refill" "_law_refill" sRefill f fd) (T : Tx mg) (cM : Cal P w K mg base (k + 1) "_law_mixed" ["number", "place"] spMixd) : FnOk P w K mg base CX0 (k + 2) f fd ["box"] spRefill := by
  refine F.ok scRefill (fun vs H Q E h => ?_) (fun cdv A outer s H vs Q E hr h => ?_)
  · obtain ⟨b, g, rfl, _⟩ := h
    rfl
  · obtain ⟨b, g, rfl, ⟨ns, at', rest, many, all, great, hb, hg, ha, hr0⟩, q⟩ := h
    have ngb : g ≠ b := BoxAt.ne ⟨ns, at', rest, many, all, great, hb, hg, ha, hr0⟩
    refine ⟨_, (pss_cons (ps_set (i := 1) scRefill.nd rfl (Or.inl rfl) (pe_dget (u1 hr) (pv 0) pe_str (fun _ _ => rfl))) (pss_cons (ps_if (pt_cmpR op_lt (pe_dget (u1 hr) (pv 0) pe_str (fun _ _ => rfl)) (pe_callB call_len_seq (by rfl) T.len_ PySem.boot_len (pa_cons (pe_dget (u1 hr) (pv 0) pe_str (fun _ _ => rfl)) pa_nil)) (nomark _)) (pss_one (ps_set (i := 1) scRefill.nd rfl (Or.inl rfl) (pe_callTy call_int1 (by rfl) T.int_ (by decide +kernel) (pa_cons (pe_ix ix_list (pe_dget (u1 hr) (pv 0) pe_str (fun _ _ => rfl)) (pe_dget (u1 hr) (pv 0) pe_str (fun _ _ => rfl)) (fun _ _ => rfl)) pa_nil)))) pss_nil) (pss_cons (ps_daug (u1 hr) (pv 0) pe_str pe_int in_add (fun _ _ _ => rfl)) (pss_cons (ps_dput (u1 hr) (pv 0) pe_str (pe_cmpR op_ge (pv 1) (pe_op op_pow pe_int pe_int) (nomark _)) rfl) (pss_cons (ps_dput (u1 hr) (pv 0) pe_str (pe_ifExp (pt_val (pe_dget (u1 hr) (pv 0) pe_str (fun _ _ => rfl))) (pv 1) (pe_c cM hr (by omega) (by rfl) (pa_cons (pe_op op_mod (pe_callTy call_int1 (by rfl) T.int_ (by decide +kernel) (pa_cons (pv 1) pa_nil)) pe_int) (pa_cons (pe_dget (u1 hr) (pv 0) pe_str (fun _ _ => rfl)) pa_nil)))) rfl) (pss_one (ps_dput (u1 hr) (pv 0) pe_str (pe_ifExp (pt_val (pe_dget (u1 hr) (pv 0) pe_str (fun _ _ => rfl))) pe_int pe_int) rfl))))))), ?_⟩
    refine seq_set ⟨_, rfl, b, _, rfl, bx_all hb, ?_⟩
    dsimp only
    refine seq_use (fun σ G => ∃ c : Int, σ = [some (.ref b), some (.int c)] ∧ G = H) ?_ (fun hrest => ?_)
    · rintro σ G ⟨c, rfl, rfl⟩
      refine ⟨_, rfl, b, _, rfl, bx_at hb, _, _, rfl, rfl, _, bp_at hb, ?_⟩
      have hb1 : (upd G b (.dK (boxL g (at' + 1) rest many great all))) b = some (.dK (boxL g (at' + 1) rest many great all)) := upd_same
      refine ⟨_, rfl, _, _, rfl, rfl, ⟨by decide, by decide, by decide⟩, _, _, rfl, rfl, _, rfl, b, _, rfl, bp_great hb1, ?_⟩
      rw [upd_upd]
      generalize hy : decide ((10 : Int) ^ (Int.toNat 18) ≤ c) = y
      have hb2 : (upd G b (.dK (boxL g (at' + 1) rest many y all))) b = some (.dK (boxL g (at' + 1) rest many y all)) := upd_same
      dsimp only
      refine seq_use (fun σ G2 => ∃ rs : Int, σ = [some (.ref b), some (.int c)] ∧ 0 ≤ rs ∧ G2 = upd G b (.dK (boxL g (at' + 1) rs many y all))) ?_ (fun hr2 => ?_)
      · rintro σ G2 ⟨rs, rfl, hrs, rfl⟩
        have hb3 : (upd G b (.dK (boxL g (at' + 1) rs many y all))) b = some (.dK (boxL g (at' + 1) rs many y all)) := upd_same
        have fin : ∀ mm : Int, Q .non (upd (upd G b (.dK (boxL g (at' + 1) rs many y all))) b (.dK (boxL g (at' + 1) rs mm y all))) := fun mm => by
          rw [upd_upd]
          exact q _ (.upd (by simp)) ⟨ns, at' + 1, rs, mm, all, y, upd_same, by rw [upd_ne ngb]; exact hg, by omega, hrs⟩
        refine ⟨_, rfl, b, _, rfl, bx_great hb3, _, rfl, ite2 (fun _ => ⟨_, rfl, b, _, rfl, bp_many hb3, fin _⟩) (fun _ => ⟨_, rfl, b, _, rfl, bp_many hb3, fin _⟩)⟩
      · refine ⟨_, rfl, b, _, rfl, bx_great hb2, _, rfl, ite2 (fun hc => ⟨_, rfl, _, rfl, b, _, rfl, bp_rest hb2, ?_⟩) (fun _ => ⟨_, rfl, .inl ⟨c, rfl, _, _, rfl, rfl, (by show (0 : Int) < 2147483647; decide), _, rfl, b, _, rfl, bx_at hb2, _, _, rfl, fun r r0 _ => ⟨_, rfl, b, _, rfl, bp_rest hb2, ?_⟩⟩⟩)⟩
        · rw [upd_upd]
          refine hr2 _ _ ⟨c, rfl, ?_, rfl⟩
          have h18 : (10 : Int) ^ (Int.toNat 18) ≤ c := of_decide_eq_true (hy.trans hc)
          have h0 : (0 : Int) ≤ (10 : Int) ^ (Int.toNat 18) := by decide
          omega
        · rw [upd_upd]
          exact hr2 _ _ ⟨r, rfl, r0, rfl⟩
    · refine ⟨_, rfl, b, _, rfl, bx_at hb, _, rfl, b, _, rfl, bx_cells hb, g, _, rfl, .inl (.of hg), _, _, rfl, rfl, _, rfl, ?_⟩
      refine ite2 (fun hl => ?_) (fun _ => hrest _ _ ⟨all, rfl, rfl⟩)
      have hl2 := of_decide_eq_true hl
      rw [List.length_map] at hl2
      obtain ⟨j, rfl⟩ : ∃ j : Nat, at' = j := ⟨at'.toNat, by omega⟩
      have hj : j < ns.length := by omega
      exact ⟨_, rfl, b, _, rfl, bx_cells hb, _, rfl, b, _, rfl, bx_at hb, g, _, _, .int ns[j], rfl, rfl, .of hg, atI_nat (by rw [List.getElem?_map, List.getElem?_eq_getElem hj]; rfl), .inl ⟨_, rfl, hrest _ _ ⟨ns[j], rfl, rfl⟩⟩⟩
theorem scDraw : FnScope ["box", "menu", "rest"] ["box", "menu"] (defScope sDraw) := ⟨rfl, rfl, rfl, by decide +kernel, rfl, by decide +kernel, by decide +kernel⟩
theorem ok_draw {f : Addr} {fd : FuncData} {k : Nat} (F : Fun K "_law_draw" "_law_draw" sDraw f fd) (T : Tx mg) (cM : Cal P w K mg base (k + 2) "_law_mixed" ["number", "place"] spMixd) (cR : Cal P w K mg base (k + 2) "_law_refill" ["box"] spRefill) : FnOk P w K mg base CX0 (k + 3) f fd ["box", "menu"] spDraw := by
  refine F.ok scDraw (fun vs H Q E h => ?_) (fun cdv A outer s H vs Q E hr h => ?_)
  · obtain ⟨b, g, m, rfl, _⟩ := h
    rfl
  · obtain ⟨b, g, m, rfl, hB, hm0, hm1, q⟩ := h
    refine ⟨_, (pss_cons (ps_if (pt_or (pt_cmpR op_eq (pe_dget (u1 hr) (pv 0) pe_str (fun _ _ => rfl)) pe_int (nomark _)) (pw_or1 (pt_and (pt_val (pe_dget (u1 hr) (pv 0) pe_str (fun _ _ => rfl))) (pw_and1 (pt_cmpR op_eq (pe_dget (u1 hr) (pv 0) pe_str (fun _ _ => rfl)) pe_int (nomark _)))))) (pss_one (ps_expr (pe_c cR hr (by omega) (by rfl) (pa_cons (pv 0) pa_nil)))) pss_nil) (pss_cons (ps_daug (u1 hr) (pv 0) pe_str pe_int in_sub (fun _ _ _ => rfl)) (pss_cons (ps_daug (u1 hr) (pv 0) pe_str pe_int in_add (fun _ _ _ => rfl)) (pss_cons (ps_set (i := 2) scDraw.nd rfl (Or.inl rfl) (pe_callTy call_int1 (by rfl) T.int_ (by decide +kernel) (pa_cons (pe_dget (u1 hr) (pv 0) pe_str (fun _ _ => rfl)) pa_nil))) (pss_cons (ps_if (pt_val (pe_dget (u1 hr) (pv 0) pe_str (fun _ _ => rfl))) (pss_cons (ps_dput (u1 hr) (pv 0) pe_str (pe_op op_fdivW (pv 2) (pv 1)) rfl) (pss_one (ps_ret (pe_op op_mod (pe_callTy call_int1 (by rfl) T.int_ (by decide +kernel) (pa_cons (pv 2) pa_nil)) (pv 1))))) pss_nil) (pss_cons (ps_dput (u1 hr) (pv 0) pe_str (pe_c cM hr (by omega) (by rfl) (pa_cons (pv 2) (pa_cons (pe_dget (u1 hr) (pv 0) pe_str (fun _ _ => rfl)) pa_nil))) rfl) (pss_one (ps_ret (pe_op op_mod (pe_callTy call_int1 (by rfl) T.int_ (by decide +kernel) (pa_cons (pe_op op_fdiv (pv 2) pe_int) pa_nil)) (pv 1)))))))))), ?_⟩
    refine seq_use (fun σ G => σ = [some (.ref b), some (.int m), none] ∧ BL [b] H G ∧ BoxAt G b g) ?_ (fun hrest => ?_)
    · rintro σ G ⟨rfl, bl, hBG⟩
      have ngb := hBG.ne
      obtain ⟨ns, at', rest, many, all, great, hb, hg, ha, hr0⟩ := hBG
      refine ⟨_, rfl, b, _, rfl, bx_many hb, _, _, rfl, rfl, _, bp_many hb, ?_⟩
      have hb1 : (upd G b (.dK (boxL g at' rest (many - 1) great all))) b = some (.dK (boxL g at' rest (many - 1) great all)) := upd_same
      refine ⟨_, rfl, b, _, rfl, bx_all hb1, _, _, rfl, rfl, _, bp_all hb1, ?_⟩
      rw [upd_upd]
      have hb2 : (upd G b (.dK (boxL g at' rest (many - 1) great (all + 1)))) b = some (.dK (boxL g at' rest (many - 1) great (all + 1))) := upd_same
      have fin : ∀ (rs v : Int), 0 ≤ rs → 0 ≤ v → v < m → Q (.int v) (upd (upd G b (.dK (boxL g at' rest (many - 1) great (all + 1)))) b (.dK (boxL g at' rs (many - 1) great (all + 1)))) := fun rs v h0 h1 h2 => by
        rw [upd_upd]
        exact q _ v (bl.trans (.upd (by simp))) ⟨ns, at', rs, many - 1, all + 1, great, upd_same, by rw [upd_ne ngb]; exact hg, ha, h0⟩ h1 h2
      refine ⟨_, rfl, b, _, rfl, bx_rest hb2, .inl ⟨rest, rfl, ?_⟩⟩
      refine ⟨_, rfl, b, _, rfl, bx_great hb2, _, rfl, ?_⟩
      refine ite2 (fun _ => ?_) (fun _ => ?_)
      · refine ⟨_, rfl, _, rfl, _, _, rfl, rfl, wide_div hm0 hm1 (by decide) (by decide), _, rfl, b, _, rfl, bp_rest hb2, ?_⟩
        exact ⟨_, rfl, .inl ⟨rest, rfl, _, rfl, _, _, rfl, rfl, hm0, fin _ _ (Int.ediv_nonneg hr0 (by omega)) (mod_in hm0).1 (mod_in hm0).2⟩⟩
      · refine ⟨_, rfl, _, rfl, b, _, rfl, bx_all hb2, _, _, rfl, fun r r0 _ => ⟨_, rfl, b, _, rfl, bp_rest hb2, ?_⟩⟩
        exact ⟨_, rfl, _, _, rfl, rfl, ⟨by decide, by decide⟩, .inl ⟨_, rfl, _, rfl, _, _, rfl, rfl, hm0, fin _ _ r0 (mod_in hm0).1 (mod_in hm0).2⟩⟩
    · obtain ⟨ns, at', rest, many, all, great, hb, hg, ha, hr0⟩ := id hB
      refine ⟨_, rfl, b, _, rfl, bx_many hb, rfl, _, rfl, ?_⟩
      refine ite2 (fun _ => ⟨_, rfl, b, g, rfl, hB, fun G bl hBG => hrest _ _ ⟨rfl, bl, hBG⟩⟩) (fun _ => ?_)
      refine ⟨_, rfl, b, _, rfl, bx_great hb, _, rfl, ?_⟩
      cases great with
      | false => exact iteF (hrest _ _ ⟨rfl, .refl, hB⟩)
      | true =>
        refine iteT ⟨_, rfl, b, _, rfl, bx_rest hb, rfl, _, rfl, ?_⟩
        exact ite2 (fun _ => ⟨_, rfl, b, g, rfl, hB, fun G bl hBG => hrest _ _ ⟨rfl, bl, hBG⟩⟩) (fun _ => hrest _ _ ⟨rfl, .refl, hB⟩)
end
end L2.My
end
section
set_option Elab.async false
set_option linter.all false
set_option maxRecDepth 100000
set_option maxHeartbeats 4000000
namespace L2.My
open PySem PySem.Spec PyProof.Rows
abbrev sBelow : Stmt := top 10
abbrev sWord : Stmt := top 13
/-! ### things of any kind: seen as deep as one likes, none the hand at b -/
/-- no int is greater -/
def maxI : Int := 10 ^ 40
def Sh0 (b : Addr) (H : Hp) (v : V) : Prop := (∃ t, ThT H v t) ∧ v ≠ .ref b ∧ (∀ z, v = .str z → z.length ≤ 5000) ∧ ∀ i, v = .int i → i ≤ maxI
def Sh (b : Addr) (H : Hp) : Nat → V → Prop
  | 0, v => Sh0 b H v
  | n + 1, v => Sh0 b H v ∧ ∀ a xs, v = .ref a → H a = some (.tup xs) → xs.length ≤ 5000 ∧ ∀ x ∈ xs, Sh b H n x
def Thg (b : Addr) (H : Hp) (v : V) : Prop := ∀ n, Sh b H n v
theorem ThT.stay {b : Addr} {H H' : Hp} {v : V} {t : String} (h : ThT H v t) (n : v ≠ .ref b) (s : BL [b] H H') : ThT H' v t := by
  cases h with
  | non => exact .non
  | bl c => exact .bl c
  | int i => exact .int i
  | str x => exact .str x
  | lst h => exact .lst (s _ _ (by simpa using fun e => n (by rw [e])) h)
  | tup h => exact .tup (s _ _ (by simpa using fun e => n (by rw [e])) h)
  | dct h => exact .dct (s _ _ (by simpa using fun e => n (by rw [e])) h)
theorem Sh0.bl {b : Addr} {H H' : Hp} {v : V} (h : Sh0 b H v) (s : BL [b] H H') : Sh0 b H' v := by
  obtain ⟨⟨t, h1⟩, h2, h3⟩ := h
  exact ⟨⟨t, h1.stay h2 s⟩, h2, h3⟩
theorem ThT.back {b : Addr} {H H' : Hp} {a : Addr} {t : String} (h : ThT H (.ref a) t) (n : V.ref a ≠ .ref b) (s : BL [b] H H') {xs : List V} (e : H' a = some (.tup xs)) : H a = some (.tup xs) := by
  have nb : a ∉ [b] := by simpa using fun e => n (by rw [e])
  cases h with
  | lst h => rw [s _ _ nb h] at e; cases e
  | tup h => rw [s _ _ nb h] at e; cases e; exact h
  | dct h => rw [s _ _ nb h] at e; cases e
theorem Sh.bl {b : Addr} {H H' : Hp} (s : BL [b] H H') : ∀ {n : Nat} {v : V}, Sh b H n v → Sh b H' n v
  | 0, v, h => Sh0.bl h s
  | n + 1, v, h => by
    refine ⟨h.1.bl s, fun a xs e ea => ?_⟩
    subst e
    obtain ⟨⟨t, h1⟩, h2, _⟩ := h.1
    obtain ⟨q1, q2⟩ := h.2 a xs rfl (h1.back h2 s ea)
    exact ⟨q1, fun x hx => Sh.bl s (q2 x hx)⟩
theorem Thg.bl {b : Addr} {H H' : Hp} {v : V} (h : Thg b H v) (s : BL [b] H H') : Thg b H' v := fun n => (h n).bl s
theorem Thg.same {b : Addr} {H H' : Hp} {v : V} (h : Thg b H v) (s : Same H H') : Thg b H' v := h.bl (.same s)
theorem Thg.th {b : Addr} {H : Hp} {v : V} (h : Thg b H v) : ∃ t, ThT H v t := (h 0).1
theorem Thg.len {b : Addr} {H : Hp} {z : Str} (h : Thg b H (.str z)) : z.length ≤ 5000 := (h 0).2.2.1 z rfl
theorem Thg.sub {b a : Addr} {H : Hp} {xs : List V} (h : Thg b H (.ref a)) (e : H a = some (.tup xs)) : xs.length ≤ 5000 ∧ ∀ x ∈ xs, Thg b H x := ⟨((h 1).2 a xs rfl e).1, fun x hx n => ((h (n + 1)).2 a xs rfl e).2 x hx⟩
theorem Thg.tup {b a : Addr} {H : Hp} {xs : List V} (e : H a = some (.tup xs)) (n : a ≠ b) (hl : xs.length ≤ 5000) (h : ∀ x ∈ xs, Thg b H x) : Thg b H (.ref a) := by
  have h0 : Sh0 b H (.ref a) := ⟨⟨_, .tup e⟩, fun z => n (V.ref.inj z), (fun z q => nomatch q), fun i q => nomatch q⟩
  intro k
  cases k with
  | zero => exact h0
  | succ k =>
    refine ⟨h0, fun a' ys q e' => ?_⟩
    cases q
    rw [e] at e'
    cases e'
    exact ⟨hl, fun x hx => h x hx k⟩
theorem Thg.lst {b a : Addr} {H : Hp} {xs : List V} (e : H a = some (.lst xs)) (n : a ≠ b) : Thg b H (.ref a) := by
  have h0 : Sh0 b H (.ref a) := ⟨⟨_, .lst e⟩, fun z => n (V.ref.inj z), (fun z q => nomatch q), fun i q => nomatch q⟩
  intro k
  cases k with
  | zero => exact h0
  | succ k =>
    refine ⟨h0, fun a' ys q e' => ?_⟩
    cases q
    rw [e] at e'
    cases e'
theorem Thg.dct {b a : Addr} {H : Hp} {kvs : List (Key × V)} (e : H a = some (.dK kvs)) (n : a ≠ b) : Thg b H (.ref a) := by
  have h0 : Sh0 b H (.ref a) := ⟨⟨_, .dct e⟩, fun z => n (V.ref.inj z), (fun z q => nomatch q), fun i q => nomatch q⟩
  intro k
  cases k with
  | zero => exact h0
  | succ k =>
    refine ⟨h0, fun a' ys q e' => ?_⟩
    cases q
    rw [e] at e'
    cases e'
theorem thg_flat {b : Addr} {H : Hp} {v : V} (h0 : Sh0 b H v) (h : ∀ a, v ≠ .ref a) : Thg b H v := by
  intro k
  cases k with
  | zero => exact h0
  | succ k => exact ⟨h0, fun a xs e _ => absurd e (h a)⟩
theorem Thg.non {b : Addr} {H : Hp} : Thg b H .non := thg_flat ⟨⟨_, .non⟩, (fun z => nomatch z), (fun z q => nomatch q), fun i q => nomatch q⟩ fun a z => nomatch z
theorem Thg.int {b : Addr} {H : Hp} (i : Int) (h : i ≤ maxI) : Thg b H (.int i) := thg_flat ⟨⟨_, .int i⟩, (fun z => nomatch z), (fun z q => nomatch q), fun j q => by cases q; exact h⟩ fun a z => nomatch z
theorem Thg.le {b : Addr} {H : Hp} {i : Int} (h : Thg b H (.int i)) : i ≤ maxI := (h 0).2.2.2 i rfl
theorem Thg.boo {b : Addr} {H : Hp} (i : Bool) : Thg b H (.bl i) := thg_flat ⟨⟨_, .bl i⟩, (fun z => nomatch z), (fun z q => nomatch q), fun i q => nomatch q⟩ fun a z => nomatch z
theorem Thg.str {b : Addr} {H : Hp} (z : Str) (h : z.length ≤ 5000) : Thg b H (.str z) := thg_flat ⟨⟨_, .str z⟩, (fun z => nomatch z), (fun y q => by cases q; exact h), fun i q => nomatch q⟩ fun a z => nomatch z
/-! ### the verdicts, read off the heap -/
def tupO : Option HO → Option (List V)
  | some (.tup xs) => some xs
  | _ => none
def tupOf (H : Hp) : V → Option (List V)
  | .ref a => tupO (H a)
  | _ => none
def signB (c : Nat) : Bool := decide (97 ≤ c) && decide (c ≤ 122)
def wordB (z : Str) : Bool := decide (1 ≤ z.length) && (decide (z.length ≤ 12) && z.cps.toList.all signB)
def wordV : V → Bool
  | .str z => wordB z
  | _ => false
theorem tupOf_at {H : Hp} {a : Addr} {xs : List V} (h : H a = some (.tup xs)) : tupOf H (.ref a) = some xs := by
  show tupO (H a) = _
  rw [h]
  rfl
theorem tupOf_lst {H : Hp} {a : Addr} {xs : List V} (h : H a = some (.lst xs)) : tupOf H (.ref a) = none := by
  show tupO (H a) = _
  rw [h]
  rfl
theorem tupOf_dct {H : Hp} {a : Addr} {xs : List (Key × V)} (h : H a = some (.dK xs)) : tupOf H (.ref a) = none := by
  show tupO (H a) = _
  rw [h]
  rfl
theorem tup_cases {H : Hp} {v : V} {t : String} (h : ThT H v t) : (∃ a xs, v = .ref a ∧ H a = some (.tup xs) ∧ tupOf H v = some xs ∧ t = "tuple") ∨ (tupOf H v = none ∧ instT t "tuple" = false) := by
  cases h with
  | non => exact .inr ⟨rfl, by decide⟩
  | bl c => exact .inr ⟨rfl, by decide⟩
  | int i => exact .inr ⟨rfl, by decide⟩
  | str x => exact .inr ⟨rfl, by decide⟩
  | lst h => exact .inr ⟨tupOf_lst h, by decide⟩
  | tup h => exact .inl ⟨_, _, rfl, h, tupOf_at h, rfl⟩
  | dct h => exact .inr ⟨tupOf_dct h, by decide⟩
theorem str_cases {H : Hp} {v : V} {t : String} (h : ThT H v t) : (∃ z, v = .str z ∧ t = "str") ∨ (wordV v = false ∧ instT t "str" = false) := by
  cases h with
  | str x => exact .inl ⟨x, rfl, rfl⟩
  | _ => exact .inr ⟨rfl, by decide⟩
theorem int_cases {H : Hp} {v : V} {t : String} {n : Int} (h : ThT H v t) : (∃ i, v = .int i ∧ t = "int") ∨ (∃ c, v = .bl c ∧ t = "bool") ∨ (belowV n v = false ∧ instT t "int" = false) := by
  cases h with
  | int i => exact .inl ⟨i, rfl, rfl⟩
  | bl c => exact .inr (.inl ⟨c, rfl, rfl⟩)
  | _ => exact .inr (.inr ⟨rfl, by decide⟩)
theorem tupOf_bl {b : Addr} {H H' : Hp} {v : V} (h : Thg b H v) (s : BL [b] H H') : tupOf H' v = tupOf H v := by
  obtain ⟨⟨t, h1⟩, h2, _⟩ := h 0
  cases h1 with
  | non => rfl
  | bl c => rfl
  | int i => rfl
  | str x => rfl
  | lst h' =>
    have e := s _ _ (by simpa using fun e => h2 (by rw [e])) h'
    rw [tupOf_lst h', tupOf_lst e]
  | tup h' =>
    have e := s _ _ (by simpa using fun e => h2 (by rw [e])) h'
    rw [tupOf_at h', tupOf_at e]
  | dct h' =>
    have e := s _ _ (by simpa using fun e => h2 (by rw [e])) h'
    rw [tupOf_dct h', tupOf_dct e]
theorem tupOf_sub {b : Addr} {H : Hp} {v : V} {xs : List V} (h : Thg b H v) (e : tupOf H v = some xs) : ∃ a, v = .ref a ∧ H a = some (.tup xs) ∧ xs.length ≤ 5000 ∧ ∀ x ∈ xs, Thg b H x := by
  obtain ⟨t, ht⟩ := h.th
  rcases tup_cases ht with ⟨a, ys, rfl, h1, h2, _⟩ | ⟨h1, _⟩
  · rw [h2] at e
    cases e
    obtain ⟨q1, q2⟩ := h.sub h1
    exact ⟨a, rfl, h1, q1, q2⟩
  · rw [h1] at e; cases e
theorem all_congr {α : Type} {p q : α → Bool} : ∀ {xs : List α}, (∀ x ∈ xs, p x = q x) → xs.all p = xs.all q
  | [], _ => rfl
  | x :: r, h => by
    rw [List.all_cons, List.all_cons, h x List.mem_cons_self, all_congr fun y hy => h y (List.mem_cons_of_mem _ hy)]
theorem range_all {α : Type} (p : α → Bool) (d : α) (xs : List α) : ((List.range xs.length).map fun i => p (xs.getD i d)).all id = xs.all p := by
  rw [List.all_map]
  induction xs with
  | nil => rfl
  | cons x r ih =>
    rw [List.length_cons, List.range_succ_eq_map, List.all_cons, List.all_cons, List.all_map]
    rw [← ih]
    rfl
/-! ### the judges -/
def spBelow : Sp := fun vs H Q _ => ∃ (b : Addr) (n : Int) (v : V), vs = [.int n, v] ∧ Thg b H v ∧ Q (.bl (belowV n v)) H
def spWord : Sp := fun vs H Q _ => ∃ (b : Addr) (v : V), vs = [v] ∧ Thg b H v ∧ ∀ H', Same H H' → Q (.bl (wordV v)) H'
section
variable {P : Program} {w : World} {K : PySem.W.Frag} {mg : Str → Option Value} {base : Heap}
theorem scBelow : FnScope ["bound", "thing"] ["bound", "thing"] (defScope sBelow) := ⟨rfl, rfl, rfl, by decide +kernel, rfl, by decide +kernel, by decide +kernel⟩
theorem ok_below {f : Addr} {fd : FuncData} {k : Nat} (F : Fun K "is_below" "is_below" sBelow f fd) (T : Tx mg) : FnOk P w K mg base CX0 (k + 1) f fd ["bound", "thing"] spBelow := by
  refine F.ok scBelow (fun vs H Q E h => ?_) (fun cdv A outer s H vs Q E hr h => ?_)
  · obtain ⟨b, n, v, rfl, _⟩ := h
    rfl
  · obtain ⟨b, n, v, rfl, hv, q⟩ := h
    obtain ⟨t, ht⟩ := hv.th
    refine ⟨_, (pss_cons (ps_if (pt_or (pt_not (pt_val (pe_callB call_isTh (by rfl) T.isi (by decide +kernel) (pa_cons (pv 1) (pa_cons (pe_bltn (v := .ty "int") (u := .type "int") (by rfl) T.int_ (by decide +kernel) rfl) pa_nil))))) (pw_or1 (pt_val (pe_callB call_isTh (by rfl) T.isi (by decide +kernel) (pa_cons (pv 1) (pa_cons (pe_bltn (v := .ty "bool") (u := .type "bool") (by rfl) T.bool_ (by decide +kernel) rfl) pa_nil)))))) (pss_one (ps_ret pe_bl)) pss_nil) (pss_one (ps_ret (pe_chain op_le op_lt pe_int (pv 1) (pv 0))))), ?_⟩
    refine ⟨_, rfl, _, "int", t, rfl, ht, by decide, _, rfl, ?_⟩
    rcases int_cases (n := n) ht with ⟨i, rfl, rfl⟩ | ⟨c, rfl, rfl⟩ | ⟨e1, e2⟩
    · refine iteF ⟨_, rfl, _, "bool", _, rfl, .int i, by decide, _, rfl, iteF ?_⟩
      refine ⟨_, rfl, _, _, rfl, rfl, _, rfl, ?_⟩
      by_cases h0 : 0 ≤ i
      · rw [decide_eq_true h0]
        refine iteT ⟨_, rfl, _, _, rfl, rfl, ?_⟩
        have e : belowV n (.int i) = decide (i < n) := by
          show decide (0 ≤ i ∧ i < n) = _
          simp [h0]
        rw [e] at q
        exact q
      · rw [decide_eq_false h0]
        refine iteF ?_
        have e : belowV n (.int i) = false := decide_eq_false fun z => h0 z.1
        rw [e] at q
        exact q
    · exact iteF ⟨_, rfl, _, "bool", _, rfl, .bl c, by decide, _, rfl, iteT q⟩
    · rw [e2]
      rw [e1] at q
      exact iteT q
theorem scWord : FnScope ["thing", "sign"] ["thing"] (defScope sWord) := ⟨rfl, rfl, rfl, by decide +kernel, rfl, by decide +kernel, by decide +kernel⟩
theorem ok_word {f : Addr} {fd : FuncData} {k : Nat} (F : Fun K "is_word" "is_word" sWord f fd) (T : Tx mg) : FnOk P w K mg base CX0 (k + 1) f fd ["thing"] spWord := by
  obtain ⟨tm, hm⟩ := T.ml
  refine F.ok scWord (fun vs H Q E h => ?_) (fun cdv A outer s H vs Q E hr h => ?_)
  · obtain ⟨b, v, rfl, _⟩ := h
    rfl
  · obtain ⟨b, v, rfl, hv, q⟩ := h
    obtain ⟨t, ht⟩ := hv.th
    refine ⟨_, (pss_cons (ps_if (pt_or (pt_not (pt_val (pe_callB call_isTh (by rfl) T.isi (by decide +kernel) (pa_cons (pv 0) (pa_cons (pe_bltn (v := .ty "str") (u := .type "str") (by rfl) T.str_ (by decide +kernel) rfl) pa_nil))))) (pw_or1 (pt_not (pt_chain op_le op_le pe_int (pe_callB call_len_str (by rfl) T.len_ PySem.boot_len (pa_cons (pv 0) pa_nil)) (pe_glob (v := .int 12) (by rfl) hm ⟨_, rfl⟩))))) (pss_one (ps_ret pe_bl)) pss_nil) (pss_one (ps_ret (pe_callB (cr_all rfl) (by rfl) T.all_ (by decide +kernel) (pa_cons (pe_lc (own := [("sign", 1)]) (g := gName 1) rfl scWord.nd (pi_str (pv 0)) (blkOk_by (N := ["thing", "sign"]) (sc := defScope sWord) (by decide +kernel)) (fun _ _ _ _ _ => pg_name (i := 1) scWord.nd rfl (Or.inl rfl)) (fun _ _ _ _ _ => pts_nil) (fun _ _ _ _ _ => (pe_chain op_le_str op_le_str pe_str (pv 1) pe_str))) pa_nil))))), ?_⟩
    refine ⟨_, rfl, _, "str", t, rfl, ht, by decide, _, rfl, ?_⟩
    rcases str_cases ht with ⟨z, rfl, rfl⟩ | ⟨e1, e2⟩
    · have ls : z.length ≤ sizeLine := Nat.le_trans hv.len (by decide)
      refine iteF ⟨_, rfl, z, rfl, ls, _, _, rfl, rfl, _, rfl, ?_⟩
      by_cases h1 : 1 ≤ z.length
      · rw [decide_eq_true (by omega)]
        refine iteT ⟨_, _, rfl, rfl, _, rfl, ?_⟩
        by_cases h2 : z.length ≤ 12
        · rw [decide_eq_true (by omega)]
          refine iteF ?_
          refine ⟨_, rfl, _, rfl, fun D hD => ?_⟩
          refine lcP walk_str (fun i => V.bl (signB (z.cps.toList.getD i 0))) (Nat.lt_of_le_of_lt (show z.cps.size ≤ 12 from h2) (by decide)) hD (fun _ _ => trivial) ?_ ?_
          · rintro i y H1 H2 Q' hi sm ⟨rfl, c, hc, rfl⟩ hq
            have hcm : z.cps.toList.getD i 0 = c := by
              rw [← Array.getElem?_toList] at hc
              rw [List.getD_eq_getElem?_getD, hc]
              rfl
            rw [hcm] at hq
            have e1 : (⟨#[c]⟩ : Str).cps.toList = [c] := rfl
            have e2 : (("a" : Str).cps.toList) = [97] := by decide +kernel
            have e3 : (("z" : Str).cps.toList) = [122] := by decide +kernel
            refine ⟨rfl, _, rfl, _, _, rfl, rfl, _, rfl, ?_⟩
            rw [e1, e2, lt1]
            by_cases c1 : 97 ≤ c
            · rw [decide_eq_false (show ¬ c < 97 by omega)]
              refine iteT ⟨_, _, rfl, rfl, ?_⟩
              rw [e1, e3, lt1]
              have e : signB c = !decide (122 < c) := by
                unfold signB
                rw [decide_eq_true c1, Bool.true_and]
                by_cases c2 : c ≤ 122
                · rw [decide_eq_true c2, decide_eq_false (by omega)]; rfl
                · rw [decide_eq_false c2, decide_eq_true (by omega)]; rfl
              rw [e] at hq
              exact hq _ (Same.refl _)
            · rw [decide_eq_true (show c < 97 by omega)]
              have e : signB c = false := by
                unfold signB
                rw [decide_eq_false c1]; rfl
              rw [e] at hq
              exact iteF (hq _ (Same.refl _))
          · intro H' sm hd
            refine ⟨D, (List.range z.cps.size).map fun i => signB (z.cps.toList.getD i 0), rfl, .inl (.inl (by rw [hd, List.map_map]; rfl)), ?_⟩
            have e := range_all signB 0 z.cps.toList
            rw [Array.length_toList] at e
            rw [e]
            have e4 : wordV (.str z) = z.cps.toList.all signB := by
              show wordB z = _
              unfold wordB
              rw [decide_eq_true h1, decide_eq_true h2]
              rfl
            rw [e4] at q
            exact q _ sm
        · rw [decide_eq_false (by omega)]
          have e4 : wordV (.str z) = false := by
            show wordB z = _
            unfold wordB
            rw [decide_eq_false h2]
            simp
          rw [e4] at q
          exact iteT (q _ (Same.refl _))
      · rw [decide_eq_false (by omega)]
        have e4 : wordV (.str z) = false := by
          show wordB z = _
          unfold wordB
          rw [decide_eq_false h1]
          rfl
        rw [e4] at q
        exact iteF ⟨_, rfl, iteT (q _ (Same.refl _))⟩
    · rw [e2]
      rw [e1] at q
      exact iteT (q _ (Same.refl _))
end
end L2.My
end
section
set_option Elab.async false
set_option linter.all false
set_option maxRecDepth 100000
set_option maxHeartbeats 4000000
/-! The judges' verdicts, read off the heap; the small ones. -/
namespace L2.My
open PySem PySem.Spec PyProof.Rows
abbrev sNumb : Stmt := top 14
abbrev sAsc : Stmt := top 15
abbrev sPair : Stmt := top 18
abbrev sMemb : Stmt := top 19
theorem lt_un {k : Nat} {A : Around} (r : Room k A) : A.units < cLine := by have := r.un; omega
theorem u2 {k : Nat} {A : Around} (h : Room k A) : A.units + 2 < cLine := by have := h.un; omega
theorem u64 {k : Nat} {A : Around} (h : Room k A) : A.units + 64 < cLine := by have := h.un; omega
def iV : V → Nat
  | .int i => i.toNat
  | _ => 0
def intV : V → Int
  | .int i => i
  | _ => 0
def numV : V → Bool
  | .int i => decide (0 ≤ i)
  | _ => false
def notNon : V → Bool
  | .non => false
  | _ => true
def pairB (H : Hp) (v : V) : Bool := match tupOf H v with
  | some [_, _] => true
  | _ => false
def memB (H : Hp) (v : V) : Bool := match tupOf H v with
  | some [x, y] => wordV x && numV y
  | _ => false
def nameV (H : Hp) (v : V) : Str := match tupOf H v with
  | some (.str z :: _) => z
  | _ => ""
def leavesB (H : Hp) (h : Nat) (v : V) : Bool := match tupOf H v with
  | some xs => decide (xs.length = 2 ^ h) && ((xs.filter notNon).all (memB H) && decide (((xs.filter notNon).map (nameV H)).Nodup))
  | none => false
def nodeB (H : Hp) (h : Nat) (v : V) : Bool := match tupOf H v with
  | some [x, y] => belowV ((h : Int) + 1) x && belowV ((2 : Int) ^ (h - iV x)) y
  | _ => false
/-- the two numbers of a node -/
def nodI (H : Hp) (v : V) : List Int := match tupOf H v with
  | some xs => xs.map intV
  | none => []
def levV (H : Hp) (v : V) : Nat := match tupOf H v with
  | some (x :: _) => iV x
  | _ => 0
def atV (H : Hp) (v : V) : Nat := match tupOf H v with
  | some (_ :: y :: _) => iV y
  | _ => 0
def ascBy {α : Type} (lt : α → α → Bool) : List α → Bool
  | [] => true
  | [_] => true
  | f :: g :: r => lt f g && ascBy lt (g :: r)
def ltI (i j : Int) : Bool := decide (i < j)
def asideB (H : Hp) (ls : List V) (lev at' : Nat) (v : V) : Bool := match tupOf H v with
  | some xs => xs.all (belowV (ls.length : Int)) && (ascBy ltI (xs.map intV) && xs.all fun x => decide (iV x / 2 ^ lev = at') && notNon (ls.getD (iV x) .non))
  | none => false
def keptB (H : Hp) (h : Nat) (ls : List V) (v : V) : Bool := match tupOf H v with
  | some [n, l, a] => nodeB H h n && (decide (levV H n ≠ 0) && (numV l && asideB H ls (levV H n) (atV H n) a))
  | _ => false
/-- a row's node -/
def rowI (H : Hp) (v : V) : List Int := match tupOf H v with
  | some (n :: _) => nodI H n
  | _ => []
def nodesB (H : Hp) (h : Nat) (ls : List V) (v : V) : Bool := match tupOf H v with
  | some xs => xs.all (keptB H h ls) && ascBy HT.lexLt (xs.map (rowI H))
  | none => false
theorem ascBy_all {α : Type} (lt : α → α → Bool) (d : α) : ∀ (fs : List α), ((List.range (fs.length - 1)).map fun i => lt (fs.getD i d) (fs.getD (i + 1) d)).all id = ascBy lt fs
  | [] => rfl
  | [_] => rfl
  | f :: g :: r => by
    have ih := ascBy_all lt d (g :: r)
    have e : (f :: g :: r).length - 1 = ((g :: r).length - 1) + 1 := by simp
    rw [e, List.range_succ_eq_map, List.map_cons, List.all_cons, List.map_map]
    show (lt f g && _) = (lt f g && ascBy lt (g :: r))
    rw [← ih]
    rfl
theorem pairB_at {H : Hp} {v : V} {xs : List V} (h : tupOf H v = some xs) : pairB H v = decide (V.int (xs.length : Nat) = V.int 2) := by
  unfold pairB
  rw [h, dec_int]
  match xs with
  | [] => rfl
  | [_] => rfl
  | [_, _] => rfl
  | _ :: _ :: _ :: r =>
    show false = _
    symm
    rw [beq_eq_false_iff_ne]
    simp only [List.length_cons]
    omega
theorem pairB_no {H : Hp} {v : V} (h : tupOf H v = none) : pairB H v = false := by unfold pairB; rw [h]
theorem pair_of {b : Addr} {H : Hp} {v : V} (t : Thg b H v) (h : pairB H v = true) : ∃ a x y, v = .ref a ∧ H a = some (.tup [x, y]) ∧ tupOf H v = some [x, y] ∧ Thg b H x ∧ Thg b H y := by
  cases e : tupOf H v with
  | none => rw [pairB_no e] at h; cases h
  | some xs =>
    obtain ⟨a, rfl, ha, _, q⟩ := tupOf_sub t e
    rw [pairB_at e, dec_int, beq_iff_eq] at h
    match xs, q, ha, h with
    | [x, y], q, ha, _ => exact ⟨a, x, y, rfl, ha, rfl, q x (by simp), q y (by simp)⟩
    | [], _, _, h => simp at h
    | [_], _, _, h => simp at h
    | _ :: _ :: _ :: r, _, _, h => simp only [List.length_cons] at h; omega
theorem memB_no {H : Hp} {v : V} (h : pairB H v = false) : memB H v = false := by
  unfold pairB at h
  unfold memB
  split <;> simp_all
theorem memB_at {H : Hp} {v x y : V} (h : tupOf H v = some [x, y]) : memB H v = (wordV x && numV y) := by unfold memB; rw [h]
def spNumb : Sp := fun vs H Q _ => ∃ (b : Addr) (v : V), vs = [v] ∧ Thg b H v ∧ Q (.bl (numV v)) H
def spPair : Sp := fun vs H Q _ => ∃ (b : Addr) (v : V), vs = [v] ∧ Thg b H v ∧ Q (.bl (pairB H v)) H
def spMemb : Sp := fun vs H Q _ => ∃ (b : Addr) (v : V), vs = [v] ∧ Thg b H v ∧ ∀ H', Same H H' → Q (.bl (memB H v)) H'
def spAsc : Sp := fun vs H Q _ => ∃ (a : Addr) (xs : List V), vs = [.ref a] ∧ (H a = some (.lst xs) ∨ H a = some (.tup xs)) ∧ xs.length ≤ 5000 ∧
  ((∃ ns : List Int, xs = ns.map V.int ∧ ∀ H', Same H H' → Q (.bl (ascBy ltI ns)) H') ∨
   ∃ (as : List Addr) (ps : List (List Int)), xs = as.map .ref ∧ Paired (fun a p => H a = some (.tup (p.map V.int))) as ps ∧ ∀ H', Same H H' → Q (.bl (ascBy HT.lexLt ps)) H')
def rLtIT (K : PySem.W.Frag) : R2 := fun x y H Q => rI0 (fun i j => .bl (decide (i < j))) x y H Q ∨ rLtT K x y H Q
theorem op_ltIT {X : Cx} (hu : X.A.units < cLine) : OpR X (compareOp .Lt) (rLtIT X.K) := by
  intro pins s σ H x y v u Q I rx ry h
  rcases h with h | h
  · exact op_lt pins s σ H x y v u Q I rx ry h
  · exact op_ltT hu pins s σ H x y v u Q I rx ry h
theorem num_cases {H : Hp} {v : V} {t : String} (h : ThT H v t) : (∃ i, v = .int i ∧ t = "int") ∨ (∃ c, v = .bl c ∧ t = "bool") ∨ (numV v = false ∧ instT t "int" = false) := by
  cases h with
  | int i => exact .inl ⟨i, rfl, rfl⟩
  | bl c => exact .inr (.inl ⟨c, rfl, rfl⟩)
  | _ => exact .inr (.inr ⟨rfl, by decide⟩)
section
variable {P : Program} {w : World} {K : PySem.W.Frag} {mg : Str → Option Value} {base : Heap}
theorem scNumb : FnScope ["thing"] ["thing"] (defScope sNumb) := ⟨rfl, rfl, rfl, by decide +kernel, rfl, by decide +kernel, by decide +kernel⟩
theorem ok_numb {f : Addr} {fd : FuncData} {k : Nat} (F : Fun K "is_number" "is_number" sNumb f fd) (T : Tx mg) : FnOk P w K mg base CX0 (k + 1) f fd ["thing"] spNumb := by
  refine F.ok scNumb (fun vs H Q E h => ?_) (fun cdv A outer s H vs Q E hr h => ?_)
  · obtain ⟨b, v, rfl, _⟩ := h
    rfl
  · obtain ⟨b, v, rfl, hv, q⟩ := h
    obtain ⟨t, ht⟩ := hv.th
    refine ⟨_, (pss_one (ps_ret (pe_and (pe_callB call_isTh (by rfl) T.isi (by decide +kernel) (pa_cons (pv 0) (pa_cons (pe_bltn (v := .ty "int") (u := .type "int") (by rfl) T.int_ (by decide +kernel) rfl) pa_nil))) (pe_and (pe_not (pe_callB call_isTh (by rfl) T.isi (by decide +kernel) (pa_cons (pv 0) (pa_cons (pe_bltn (v := .ty "bool") (u := .type "bool") (by rfl) T.bool_ (by decide +kernel) rfl) pa_nil)))) (pe_one (pe_cmpR op_ge (pv 0) pe_int (nomark _))))))), ?_⟩
    refine ⟨_, rfl, _, "int", t, rfl, ht, by decide, _, rfl, ?_⟩
    rcases num_cases ht with ⟨i, rfl, rfl⟩ | ⟨c, rfl, rfl⟩ | ⟨e1, e2⟩
    · exact iteT ⟨_, rfl, _, "bool", _, rfl, .int i, by decide, _, rfl, _, rfl, iteT ⟨_, rfl, _, _, rfl, rfl, q⟩⟩
    · exact iteT ⟨_, rfl, _, "bool", _, rfl, .bl c, by decide, _, rfl, _, rfl, iteF q⟩
    · rw [e2]
      rw [e1] at q
      exact iteF q
theorem scPair : FnScope ["thing"] ["thing"] (defScope sPair) := ⟨rfl, rfl, rfl, by decide +kernel, rfl, by decide +kernel, by decide +kernel⟩
theorem ok_pair {f : Addr} {fd : FuncData} {k : Nat} (F : Fun K "is_pair" "is_pair" sPair f fd) (T : Tx mg) : FnOk P w K mg base CX0 (k + 1) f fd ["thing"] spPair := by
  refine F.ok scPair (fun vs H Q E h => ?_) (fun cdv A outer s H vs Q E hr h => ?_)
  · obtain ⟨b, v, rfl, _⟩ := h
    rfl
  · obtain ⟨b, v, rfl, hv, q⟩ := h
    obtain ⟨t, ht⟩ := hv.th
    refine ⟨_, (pss_one (ps_ret (pe_and (pe_callB call_isTh (by rfl) T.isi (by decide +kernel) (pa_cons (pv 0) (pa_cons (pe_bltn (v := .ty "tuple") (u := .type "tuple") (by rfl) T.tuple_ (by decide +kernel) rfl) pa_nil))) (pe_one (pe_cmpR op_eq (pe_callB call_len_seq (by rfl) T.len_ PySem.boot_len (pa_cons (pv 0) pa_nil)) pe_int (nomark _)))))), ?_⟩
    refine ⟨_, rfl, _, "tuple", t, rfl, ht, by decide, _, rfl, ?_⟩
    rcases tup_cases ht with ⟨a, xs, rfl, hx, e, rfl⟩ | ⟨e1, e2⟩
    · refine iteT ⟨_, rfl, a, xs, rfl, .inr (.of hx), rfl, ?_⟩
      rw [pairB_at e] at q
      exact q
    · rw [e2]
      rw [pairB_no e1] at q
      exact iteF q
theorem scMemb : FnScope ["thing"] ["thing"] (defScope sMemb) := ⟨rfl, rfl, rfl, by decide +kernel, rfl, by decide +kernel, by decide +kernel⟩
theorem ok_memb {f : Addr} {fd : FuncData} {k : Nat} (F : Fun K "is_member" "is_member" sMemb f fd) (T : Tx mg) (cP : Cal P w K mg base (k + 1) "is_pair" ["thing"] spPair) (cW : Cal P w K mg base (k + 1) "is_word" ["thing"] spWord) (cN : Cal P w K mg base (k + 1) "is_number" ["thing"] spNumb) : FnOk P w K mg base CX0 (k + 2) f fd ["thing"] spMemb := by
  refine F.ok scMemb (fun vs H Q E h => ?_) (fun cdv A outer s H vs Q E hr h => ?_)
  · obtain ⟨b, v, rfl, _⟩ := h
    rfl
  · obtain ⟨b, v, rfl, hv, q⟩ := h
    refine ⟨_, (pss_one (ps_ret (pe_and (pe_c cP hr (by omega) (by rfl) (pa_cons (pv 0) pa_nil)) (pe_and (pe_c cW hr (by omega) (by rfl) (pa_cons (pe_ix ix_tup (pv 0) pe_int (fun _ _ => rfl)) pa_nil)) (pe_one (pe_c cN hr (by omega) (by rfl) (pa_cons (pe_ix ix_tup (pv 0) pe_int (fun _ _ => rfl)) pa_nil))))))), ?_⟩
    refine ⟨_, rfl, b, v, rfl, hv, _, rfl, ?_⟩
    cases hp : pairB H v with
    | false =>
      rw [memB_no hp] at q
      exact iteF (q _ (Same.refl _))
    | true =>
      obtain ⟨a, x, y, rfl, ha, e, tx, ty⟩ := pair_of hv hp
      rw [memB_at e] at q
      refine iteT ⟨_, rfl, a, _, _, x, rfl, rfl, .of ha, atI_nat (j := 0) rfl, b, x, rfl, tx, fun H1 s1 => ⟨_, rfl, ?_⟩⟩
      cases hw : wordV x with
      | false =>
        rw [hw] at q
        exact iteF (q _ s1)
      | true =>
        rw [hw] at q
        exact iteT ⟨_, rfl, a, _, _, y, rfl, rfl, .of (s1 _ _ ha), atI_nat (j := 1) rfl, b, y, rfl, ty.same s1, q _ s1⟩
theorem scAsc : FnScope ["things", "at"] ["things"] (defScope sAsc) := ⟨rfl, rfl, rfl, by decide +kernel, rfl, by decide +kernel, by decide +kernel⟩
theorem ok_asc {f : Addr} {fd : FuncData} {k : Nat} (F : Fun K "ascends" "ascends" sAsc f fd) (T : Tx mg) : FnOk P w K mg base CX0 (k + 1) f fd ["things"] spAsc := by
  refine F.ok scAsc (fun vs H Q E h => ?_) (fun cdv A outer s H vs Q E hr h => ?_)
  · obtain ⟨a, xs, rfl, _⟩ := h
    rfl
  · refine ⟨_, (pss_one (ps_ret (pe_callB (cr_all rfl) (by rfl) T.all_ (by decide +kernel) (pa_cons (pe_lc (own := [("at", 1)]) (g := gName 1) (te := tOp (rLtIT K) (tOp (rIx K) (tVar 0) (tVar 1)) (tOp (rIx K) (tVar 0) (tOp (rI0 fun i j => .int (i + j)) (tVar 1) (tC (.int 1))))) rfl scAsc.nd (pi_range1 (by rfl) T.range_ (pa_cons (pe_op op_sub (pe_callB call_len_seq (by rfl) T.len_ PySem.boot_len (pa_cons (pv 0) pa_nil)) pe_int) pa_nil)) (blkOk_by (N := ["things", "at"]) (sc := defScope sAsc) (by decide +kernel)) (fun _ _ _ _ _ => pg_name (i := 1) scAsc.nd rfl (Or.inl rfl)) (fun _ _ _ _ _ => pts_nil) (fun _ _ _ _ _ => (pe_cmpR (op_ltIT (lt_un hr)) (pe_ix ix_seq (pv 0) (pv 1) (fun _ _ => rfl)) (pe_ix ix_seq (pv 0) (pe_op op_add (pv 1) pe_int) (fun _ _ => rfl)) (nomark _)))) pa_nil)))), ?_⟩
    obtain ⟨a, xs, rfl, ha, hl, h⟩ := h
    have ix : ∀ {G : Hp} {j : Int} {v : V} {Q : VK}, Same H G → atI xs j = some v → Q v G → rIx K (.ref a) (.int j) G Q := fun {G j v Q} sm e q => by
      rcases ha with ha | ha
      · exact .inl ⟨a, xs, j, v, rfl, rfl, .of (sm _ _ ha), e, q⟩
      · exact .inr (.inl ⟨a, xs, j, v, rfl, rfl, .of (sm _ _ ha), e, q⟩)
    have sq : SqL K H a xs ∨ SqT K H a xs := ha.elim (fun h => .inl (.of h)) fun h => .inr (.of h)
    refine ⟨_, rfl, a, _, rfl, sq, _, _, rfl, rfl, ?_⟩
    refine ⟨_, rfl, by omega, by omega, fun D hD => ?_⟩
    have hn : ((xs.length : Nat) - 1 : Int).toNat = xs.length - 1 := by omega
    rw [hn]
    rcases h with ⟨ns, rfl, q⟩ | ⟨as, ps, rfl, hp, q⟩
    · rw [List.length_map] at *
      refine lcP (walk_range (lo := 0)) (fun i => V.bl (ltI (ns.getD i 0) (ns.getD (i + 1) 0))) (Nat.lt_of_le_of_lt (show ns.length - 1 ≤ 5000 by omega) (by decide)) hD (fun _ _ => trivial) ?_ ?_
      · rintro i y H3 H4 Q' hi sm ⟨rfl, rfl⟩ hq
        have e1 : ns[i]? = some ns[i] := List.getElem?_eq_getElem (by omega)
        have e2 : ns[i + 1]? = some ns[i + 1] := List.getElem?_eq_getElem (by omega)
        refine ⟨rfl, _, rfl, _, rfl, ix sm (v := .int ns[i]) (by rw [Int.zero_add]; exact atI_nat (by rw [List.getElem?_map, e1]; rfl)) ?_⟩
        refine ⟨_, rfl, _, rfl, _, _, rfl, rfl, ix sm (v := .int ns[i + 1]) (by rw [Int.zero_add]; exact atI_nat (j := i + 1) (by rw [List.getElem?_map, e2]; rfl)) (.inl ⟨_, _, rfl, rfl, ?_⟩)⟩
        have z1 : ns.getD i 0 = ns[i] := by rw [List.getD_eq_getElem?_getD, e1]; rfl
        have z2 : ns.getD (i + 1) 0 = ns[i + 1] := by rw [List.getD_eq_getElem?_getD, e2]; rfl
        rw [z1, z2] at hq
        exact hq _ (Same.refl _)
      · intro H' sm hd
        refine ⟨D, (List.range (ns.length - 1)).map fun i => ltI (ns.getD i 0) (ns.getD (i + 1) 0), rfl, .inl (.inl (by rw [hd, List.map_map]; rfl)), ?_⟩
        rw [ascBy_all]
        exact q _ sm
    · have le := Paired.len hp
      rw [List.length_map] at hl
      have hl2 : ps.length ≤ 5000 := by omega
      rw [List.length_map, le]
      refine lcP (walk_range (lo := 0)) (fun i => V.bl (HT.lexLt (ps.getD i []) (ps.getD (i + 1) []))) (Nat.lt_of_le_of_lt (show ps.length - 1 ≤ 5000 by omega) (by decide)) hD (fun _ _ => trivial) ?_ ?_
      · rintro i y H3 H4 Q' hi sm ⟨rfl, rfl⟩ hq
        have e1 : as[i]? = some (as[i]'(by omega)) := List.getElem?_eq_getElem (by omega)
        have e2 : as[i + 1]? = some (as[i + 1]'(by omega)) := List.getElem?_eq_getElem (by omega)
        obtain ⟨f1, g1, r1⟩ := Paired.at' hp e1
        obtain ⟨f2, g2, r2⟩ := Paired.at' hp e2
        refine ⟨rfl, _, rfl, _, rfl, ix sm (v := .ref (as[i]'(by omega))) (by rw [Int.zero_add]; exact atI_nat (by rw [List.getElem?_map, e1]; rfl)) ?_⟩
        refine ⟨_, rfl, _, rfl, _, _, rfl, rfl, ix sm (v := .ref (as[i + 1]'(by omega))) (by rw [Int.zero_add]; exact atI_nat (j := i + 1) (by rw [List.getElem?_map, e2]; rfl)) (.inr ⟨_, _, f1, f2, rfl, rfl, .of (sm _ _ r1), .of (sm _ _ r2), ?_⟩)⟩
        have z1 : ps.getD i [] = f1 := by rw [List.getD_eq_getElem?_getD, g1]; rfl
        have z2 : ps.getD (i + 1) [] = f2 := by rw [List.getD_eq_getElem?_getD, g2]; rfl
        rw [z1, z2] at hq
        exact hq _ (Same.refl _)
      · intro H' sm hd
        refine ⟨D, (List.range (ps.length - 1)).map fun i => HT.lexLt (ps.getD i []) (ps.getD (i + 1) []), rfl, .inl (.inl (by rw [hd, List.map_map]; rfl)), ?_⟩
        rw [ascBy_all]
        exact q _ sm
end
end L2.My
end
section
set_option Elab.async false
set_option linter.all false
set_option maxRecDepth 100000
set_option maxHeartbeats 4000000
/-! is_leaves, is_node. -/
namespace L2.My
open PySem PySem.Spec PyProof.Rows
abbrev sLeav : Stmt := top 20
abbrev sNode : Stmt := top 21
abbrev rNotN : R2 := fun x y H Q => y = .non ∧ Q (.bl (!decide (x = .non))) H
abbrev rLenS (K : PySem.W.Frag) : List V → Hp → VK → Prop := fun xs H Q => ∃ p ys, xs = [V.ref p] ∧ (SqL K H p ys ∨ SqT K H p ys) ∧ Q (V.int ys.length) H
section
variable {J : It} {n : Nat} {G : Hp → Prop} {Y : Nat → Hp → V → Hp → Prop}
theorem dcK_it (w : Walk J n G Y) {g : TG} {tt : TT} {tk tv : TE} {vs : List Nat} {σ : St} {H1 : Hp} {D : Addr} {Qd : Hp → Prop} (Pv : Nat → Hp → Prop) (h0 : Pv 0 (upd H1 D (.dK []))) (hG : ∀ i H, i ≤ n → Pv i H → G H)
    (hs : ∀ i x H H', i < n → Pv i H → Y i H x H' → g x (wipe σ vs) H' fun σ2 H2 => wipe σ2 vs = wipe σ vs ∧ tt σ2 H2 fun b H3 =>
      if b = true then tk σ2 H3 fun y H4 => tv σ2 H4 fun z H5 => ∃ kvs k, y = kV k ∧ H5 D = some (.dK kvs) ∧ kvs.length < sizeLine ∧ Pv (i + 1) (upd H5 D (.dK (putK kvs k z))) else Pv (i + 1) H3)
    (hd : ∀ H, Pv n H → Qd H) : ∃ W : Nat → Nat → Hp → Prop, (∃ m, W 0 m (upd H1 D (.dK []))) ∧ ∀ i m H, W i m H →
      (J.stop i H ∧ Qd H) ∨ (J.go i H ∧ ∃ Nx : Hp → Prop, (∀ H', Nx H' → ∃ m', m' < m ∧ W (i + 1) m' H') ∧ ∀ x H', J.yld i H x H' → g x (wipe σ vs) H' fun σ2 H2 => wipe σ2 vs = wipe σ vs ∧ tt σ2 H2 fun b H3 =>
        if b = true then tk σ2 H3 fun y H4 => tv σ2 H4 fun z H5 => ∃ kvs k, y = kV k ∧ H5 D = some (.dK kvs) ∧ kvs.length < sizeLine ∧ Nx (upd H5 D (.dK (putK kvs k z))) else Nx H3) := by
  refine ⟨fun i m H => i + m = n ∧ Pv i H, ⟨n, by omega, h0⟩, fun i m H ⟨e, h⟩ => ?_⟩
  have gi := hG i H (by omega) h
  by_cases hi : i < n
  · exact .inr ⟨w.goes i H hi gi, fun H' => Pv (i + 1) H', fun H' h' => ⟨m - 1, by omega, by omega, h'⟩, fun x H' y => hs i x H H' hi h (w.yields i H x H' hi gi y)⟩
  · obtain rfl : i = n := by omega
    exact .inl ⟨w.stops H gi, hd H h⟩
end
open Classical in
theorem keys_put {kvs : List (Key × V)} {k : Key} {v : V} : (putK kvs k v).map (·.1) = if k ∈ kvs.map (·.1) then kvs.map (·.1) else kvs.map (·.1) ++ [k] := by
  unfold putK
  by_cases h : k ∈ kvs.map (·.1)
  · rw [if_pos h]
    have e : (kvs.any fun kv => decide (kv.1 = k)) = true := by
      obtain ⟨p, hp, rfl⟩ := List.mem_map.mp h
      exact List.any_eq_true.mpr ⟨p, hp, decide_eq_true rfl⟩
    rw [if_pos e, List.map_map]
    apply List.map_congr_left
    intro p _
    show (if p.1 = k then (p.1, v) else p).1 = p.1
    split <;> rfl
  · rw [if_neg h]
    have e : ¬ (kvs.any fun kv => decide (kv.1 = k)) = true := fun z => by
      obtain ⟨p, hp, e⟩ := List.any_eq_true.mp z
      exact h (List.mem_map.mpr ⟨p, hp, of_decide_eq_true e⟩)
    rw [if_neg e, List.map_append]
    rfl
theorem nonN (v : V) : (!decide (v = V.non)) = notNon v := by cases v <;> simp [notNon]
theorem mem_name {H : Hp} {v : V} (h : memB H v = true) : ∃ y, tupOf H v = some [.str (nameV H v), y] := by
  unfold memB at h
  cases e : tupOf H v with
  | none => rw [e] at h; cases h
  | some xs =>
    rw [e] at h
    match xs, h with
    | [], h => cases h
    | [_], h => cases h
    | _ :: _ :: _ :: _, h => cases h
    | [x, y], h =>
      cases x with
      | str z =>
        refine ⟨y, ?_⟩
        have en : nameV H v = z := by unfold nameV; rw [e]
        rw [en]
      | _ =>
        have h' : (wordV _ && numV y) = true := h
        rw [show wordV _ = false from rfl] at h'
        cases h'
theorem leavesB_no {H : Hp} {h : Nat} {v : V} (e : tupOf H v = none) : leavesB H h v = false := by unfold leavesB; rw [e]
theorem leavesB_at {H : Hp} {h : Nat} {v : V} {xs : List V} (e : tupOf H v = some xs) : leavesB H h v = (decide (xs.length = 2 ^ h) && ((xs.filter notNon).all (memB H) && decide (((xs.filter notNon).map (nameV H)).Nodup))) := by unfold leavesB; rw [e]
def leavesL (H : Hp) (h : Nat) (xs : List V) : Bool := decide (xs.length = 2 ^ h) && ((xs.filter notNon).all (memB H) && decide (((xs.filter notNon).map (nameV H)).Nodup))
def spLeav : Sp := fun vs H Q _ => ∃ (b : Addr) (h : Nat) (a : Addr) (xs : List V), vs = [.int (h : Int), .ref a] ∧ h ≤ 8 ∧ TF H a xs ∧ (∀ x ∈ xs, Thg b H x) ∧ ∀ H', Same H H' → Q (.bl (leavesL H h xs)) H'
def spNode : Sp := fun vs H Q _ => ∃ (b : Addr) (h : Nat) (v : V), vs = [.int (h : Int), v] ∧ h ≤ 8 ∧ Thg b H v ∧ Q (.bl (nodeB H h v)) H
theorem filt_snoc {α : Type} (p : α → Bool) {xs : List α} {i : Nat} {x : α} (h : xs[i]? = some x) : (xs.take (i + 1)).filter p = (xs.take i).filter p ++ if p x = true then [x] else [] := by
  rw [take_snoc h, List.filter_append, List.filter_cons, List.filter_nil]
theorem nodup_snoc {α : Type} {l : List α} {z : α} : (l ++ [z]).Nodup ↔ l.Nodup ∧ z ∉ l := by
  rw [List.nodup_append]
  constructor
  · rintro ⟨h1, _, h3⟩
    exact ⟨h1, fun h => h3 z h z List.mem_cons_self rfl⟩
  · rintro ⟨h1, h2⟩
    exact ⟨h1, by simp, fun a ha b hb e => h2 (by rw [List.mem_singleton] at hb; rw [← hb, ← e]; exact ha)⟩
section
variable {P : Program} {w : World} {K : PySem.W.Frag} {mg : Str → Option Value} {base : Heap}
theorem scLeav : FnScope ["height", "thing", "having", "leaf"] ["height", "thing"] (defScope sLeav) := ⟨rfl, rfl, rfl, by decide +kernel, rfl, by decide +kernel, by decide +kernel⟩
theorem ok_leav {f : Addr} {fd : FuncData} {k : Nat} (F : Fun K "is_leaves" "is_leaves" sLeav f fd) (T : Tx mg) (cM : Cal P w K mg base (k + 2) "is_member" ["thing"] spMemb) : FnOk P w K mg base CX0 (k + 3) f fd ["height", "thing"] spLeav := by
  refine F.ok scLeav (fun vs H Q E h => ?_) (fun cdv A outer s H vs Q E hr h => ?_)
  · obtain ⟨b, h, a, xs, rfl, _⟩ := h
    rfl
  · obtain ⟨b, h, a, xs, rfl, hh, hx, hxs, q⟩ := h
    refine ⟨_, (pss_cons (ps_if (pt_or (pt_not (pt_val (pe_callB call_isF (by rfl) T.isi (by decide +kernel) (pa_cons (pv 1) (pa_cons (pe_bltn (v := .ty "tuple") (u := .type "tuple") (by rfl) T.tuple_ (by decide +kernel) rfl) pa_nil))))) (pw_or1 (pt_cmpR op_ne (pe_callB call_len_seq (by rfl) T.len_ PySem.boot_len (pa_cons (pv 1) pa_nil)) (pe_op op_shl pe_int (pv 0)) (nomark _)))) (pss_one (ps_ret pe_bl)) pss_nil) (pss_cons (ps_setLc (own := [("leaf", 3)]) (i := 2) (g := gName 3) (te := tVar 3) (tt := tTest (tOp rNotN (tVar 3) (tC .non))) rfl scLeav.nd rfl rfl (sw_true rfl rfl rfl (by decide +kernel)) (pi_tup (pv 1)) (blkOk_by (N := ["height", "thing", "having", "leaf"]) (sc := defScope sLeav) (by decide +kernel)) (fun _ _ _ _ _ => pg_name (i := 3) scLeav.nd rfl (Or.inl rfl)) (fun _ _ _ _ _ => (pts_one (pt_cmpR op_notN (pv 3) pe_non (nomark _)))) (fun _ _ _ _ _ => (pv 3))) (pss_one (ps_ret (pe_and (pe_callB (cr_all rfl) (by rfl) T.all_ (by decide +kernel) (pa_cons (pe_lc (own := [("leaf", 3)]) (g := gName 3) (te := tCall spMemb [] E0 (tCons (tVar 3) tNil)) rfl scLeav.nd (pi_list (pv 2)) (blkOk_by (N := ["height", "thing", "having", "leaf"]) (sc := defScope sLeav) (by decide +kernel)) (fun _ _ _ _ _ => pg_name (i := 3) scLeav.nd rfl (Or.inl rfl)) (fun _ _ _ _ _ => pts_nil) (fun _ _ _ _ _ => (pe_c cM hr (by omega) (by rfl) (pa_cons (pv 3) pa_nil)))) pa_nil)) (pe_one (pe_cmpR op_eq (pe_callB call_lenD (by rfl) T.len_ PySem.boot_len (pa_cons (pe_dc (own := [("leaf", 3)]) (g := gName 3) (tk := tOp (rIxT K) (tVar 3) (tC (.int 0))) (tv := tC (.bl true)) rfl scLeav.nd (pi_list (pv 2)) (blkOk_by (N := ["height", "thing", "having", "leaf"]) (sc := defScope sLeav) (by decide +kernel)) (fun _ _ _ _ _ => (pg_name (i := 3) scLeav.nd rfl (Or.inl rfl))) (fun _ _ _ _ _ => pts_nil) (fun _ _ _ _ _ => (pe_ix ix_tup (pv 3) pe_int (fun _ _ => rfl))) (fun _ _ _ _ _ => pe_bl)) pa_nil)) (pe_callB call_len_seq (by rfl) T.len_ PySem.boot_len (pa_cons (pv 2) pa_nil)) (nomark _)))))))), ?_⟩
    unfold leavesL at q
    refine ⟨_, rfl, .inr ⟨a, xs, rfl, hx, _, rfl, ?_⟩⟩
    refine iteF ⟨_, rfl, a, xs, rfl, .inr hx.sq, _, rfl, _, _, rfl, rfl, ⟨by omega, by omega, by decide⟩, rfl, _, rfl, ?_⟩
    have e2 : (1 * 2 ^ (h : Int).toNat : Int) = ((2 ^ h : Nat) : Int) := by
      rw [Int.one_mul, Int.toNat_natCast]
      push_cast
      rfl
    have hd : decide (V.int (xs.length : Nat) = V.int (1 * 2 ^ (h : Int).toNat)) = decide (xs.length = 2 ^ h) := by
      rw [dec_int, e2, Bool.eq_iff_iff, beq_iff_eq, decide_eq_true_iff]
      omega
    dsimp only
    rw [hd]
    by_cases hlen : xs.length = 2 ^ h
    rotate_left
    · rw [decide_eq_false hlen, Bool.false_and] at q
      rw [decide_eq_false hlen]
      exact iteT (q _ (Same.refl _))
    rw [decide_eq_true hlen, Bool.true_and] at q
    rw [decide_eq_true hlen]
    refine iteF ?_
    refine ⟨_, rfl, a, rfl, ⟨_, hx.sq⟩, fun D nD => ?_⟩
    have hb8 : xs.length ≤ 256 := by
      rw [hlen]
      exact Nat.le_trans (Nat.pow_le_pow_right (by decide) hh) (by decide)
    refine lc_it (walk_tup (xs := xs)) (fun i G => Same H G ∧ G D = some (.lst ((xs.take i).filter notNon))) ⟨same_upd nD, by rw [upd_same]; rfl⟩ (fun i G _ hG => (hx.same hG.1).sq) ?_ ?_
    · rintro i y G G' hi ⟨sm, hD⟩ ⟨rfl, hy⟩
      refine ⟨rfl, _, rfl, rfl, _, rfl, ?_⟩
      rw [nonN, filt_snoc notNon hy]
      cases hn : notNon y with
      | false => exact iteF ⟨sm, by rw [if_neg Bool.false_ne_true, List.append_nil]; exact hD⟩
      | true =>
        refine iteT ⟨_, rfl, _, hD, Nat.lt_of_le_of_lt (show ((xs.take i).filter notNon).length ≤ 300 from Nat.le_trans (List.length_filter_le _ _) (by rw [List.length_take]; omega)) (by decide), same_put sm nD, by rw [if_pos rfl]; exact upd_same⟩
    rintro G ⟨sm, hD⟩
    rw [List.take_length] at hD
    generalize hvs : xs.filter notNon = vs at *
    have hm : ∀ x ∈ vs, Thg b H x := fun x hx2 => hxs x (by rw [← hvs] at hx2; exact (List.mem_filter.mp hx2).1)
    have hvl : vs.length ≤ 256 := by rw [← hvs]; exact Nat.le_trans (List.length_filter_le _ _) hb8
    refine ⟨_, rfl, D, rfl, ⟨_, SqL.of hD⟩, fun D2 nD2 => ?_⟩
    refine lcP (walk_list (xs := vs)) (fun i => V.bl (memB H (vs.getD i .non))) (Nat.lt_of_le_of_lt hvl (by decide)) nD2 (fun _ s => SqL.of (s _ _ hD)) ?_ ?_
    · rintro i y G3 G4 Q' hi s3 ⟨rfl, hy⟩ hq
      have eg : vs.getD i .non = y := by rw [List.getD_eq_getElem?_getD, hy]; rfl
      rw [eg] at hq
      have ty := (hm y (List.mem_of_getElem? hy)).same (sm.trans s3)
      refine ⟨rfl, _, rfl, b, y, rfl, ty, fun G5 s5 => ?_⟩
      have em : memB G4 y = memB H y := by
        unfold memB
        rw [tupOf_bl (hm y (List.mem_of_getElem? hy)) (.same (sm.trans s3))]
      rw [em]
      exact hq _ s5
    intro G3 s3 hd3
    refine ⟨D2, (List.range vs.length).map fun i => memB H (vs.getD i .non), rfl, .inl (.inl (by rw [hd3, List.map_map]; rfl)), ?_⟩
    rw [range_all]
    have s03 := sm.trans s3
    have hD3 := s3 _ _ hD
    refine ⟨_, rfl, ?_⟩
    cases hall : vs.all (memB H) with
    | false =>
      rw [hall, Bool.false_and] at q
      exact iteF (q _ s03)
    | true =>
      rw [hall, Bool.true_and] at q
      refine iteT ⟨_, rfl, D, rfl, ⟨_, SqL.of hD3⟩, fun D4 nD4 => ?_⟩
      refine dcK_it (walk_list (xs := vs)) (fun i G4 => Same G3 G4 ∧ ∃ kvs : List (Key × V), G4 D4 = some (.dK kvs) ∧ (∀ z, .inr z ∈ kvs.map (·.1) ↔ z ∈ (vs.take i).map (nameV H)) ∧ kvs.length ≤ i ∧ (kvs.length = i ↔ ((vs.take i).map (nameV H)).Nodup)) ⟨same_upd nD4, [], upd_same, by simp, Nat.le_refl _, by simp⟩ (fun i G4 _ h4 => SqL.of (h4.1 _ _ hD3)) ?_ ?_
      · rintro i y G4 G5 hi ⟨s4, kvs, h1, h2, h3, h4⟩ ⟨rfl, hy⟩
        have my := List.mem_of_getElem? hy
        obtain ⟨u, eu⟩ := mem_name (List.all_eq_true.mp hall y my)
        obtain ⟨ay, rfl, hay, _, _⟩ := tupOf_sub (hm y my) eu
        have hay4 := s4 _ _ (s03 _ _ hay)
        refine ⟨rfl, _, rfl, ay, _, _, _, rfl, rfl, .of hay4, atI_nat (j := 0) rfl, kvs, .inr (nameV H (.ref ay)), rfl, h1, Nat.lt_of_le_of_lt (show kvs.length ≤ 256 by omega) (by decide), same_put s4 nD4, _, upd_same, fun z => ?_, ?_, ?_⟩
        · rw [keys_put, take_snoc hy, List.map_append, List.mem_append]
          split
          · rename_i hk
            rw [h2]
            constructor
            · exact .inl
            · rintro (c | c)
              · exact c
              · rw [List.map_cons, List.map_nil, List.mem_singleton] at c
                rw [c]
                exact (h2 _).mp hk
          · rw [List.mem_append, h2, List.mem_singleton, List.map_cons, List.map_nil, List.mem_singleton]
            constructor
            · rintro (c | c)
              · exact .inl c
              · exact .inr (Sum.inr.inj c)
            · rintro (c | c)
              · exact .inl c
              · exact .inr (by rw [c])
        · have := length_putK kvs (.inr (nameV H (.ref ay))) (.bl true)
          omega
        · have hlk : (putK kvs (.inr (nameV H (.ref ay))) (V.bl true)).length = ((putK kvs (.inr (nameV H (.ref ay))) (V.bl true)).map (·.1)).length := by rw [List.length_map]
          rw [hlk, keys_put, take_snoc hy, List.map_append, List.map_cons, List.map_nil, nodup_snoc, ← h4, ← h2]
          split
          · rename_i hk
            rw [List.length_map]
            constructor
            · intro c; omega
            · intro c; exact absurd hk c.2
          · rename_i hk
            rw [List.length_append, List.length_map, List.length_singleton]
            constructor
            · intro c; exact ⟨by omega, hk⟩
            · intro c; omega
      · rintro G4 ⟨s4, kvs, h1, h2, h3, h4⟩
        refine ⟨D4, kvs, rfl, h1, _, rfl, D, vs, rfl, .inl (.of (s4 _ _ hD3)), rfl, ?_⟩
        rw [List.take_length] at h4
        have ed : decide (V.int (kvs.length : Nat) = V.int (vs.length : Nat)) = decide ((vs.map (nameV H)).Nodup) := by
          rw [dec_int]
          by_cases c : (vs.map (nameV H)).Nodup
          · rw [decide_eq_true c, beq_iff_eq, h4.mpr c]
          · rw [decide_eq_false c, beq_eq_false_iff_ne]
            exact fun z => c (h4.mp (by omega))
        rw [ed]
        exact q _ (s03.trans s4)
theorem scNode : FnScope ["height", "thing"] ["height", "thing"] (defScope sNode) := ⟨rfl, rfl, rfl, by decide +kernel, rfl, by decide +kernel, by decide +kernel⟩
theorem ok_node {f : Addr} {fd : FuncData} {k : Nat} (F : Fun K "is_node" "is_node" sNode f fd) (T : Tx mg) (cP : Cal P w K mg base (k + 1) "is_pair" ["thing"] spPair) (cB : Cal P w K mg base (k + 1) "is_below" ["bound", "thing"] spBelow) : FnOk P w K mg base CX0 (k + 2) f fd ["height", "thing"] spNode := by
  refine F.ok scNode (fun vs H Q E h => ?_) (fun cdv A outer s H vs Q E hr h => ?_)
  · obtain ⟨b, h, v, rfl, _⟩ := h
    rfl
  · obtain ⟨b, h, v, rfl, hh, hv, q⟩ := h
    refine ⟨_, (pss_one (ps_ret (pe_and (pe_c cP hr (by omega) (by rfl) (pa_cons (pv 1) pa_nil)) (pe_and (pe_c cB hr (by omega) (by rfl) (pa_cons (pe_op op_add (pv 0) pe_int) (pa_cons (pe_ix ix_tup (pv 1) pe_int (fun _ _ => rfl)) pa_nil))) (pe_one (pe_c cB hr (by omega) (by rfl) (pa_cons (pe_op op_shl pe_int (pe_op op_sub (pv 0) (pe_ix ix_tup (pv 1) pe_int (fun _ _ => rfl)))) (pa_cons (pe_ix ix_tup (pv 1) pe_int (fun _ _ => rfl)) pa_nil)))))))), ?_⟩
    refine ⟨_, rfl, b, v, rfl, hv, _, rfl, ?_⟩
    cases hp : pairB H v with
    | false =>
      have e : nodeB H h v = false := by
        unfold pairB at hp
        unfold nodeB
        split <;> simp_all
      rw [e] at q
      exact iteF q
    | true =>
      obtain ⟨a, x, y, rfl, ha, e, tx, ty⟩ := pair_of hv hp
      have en : nodeB H h (.ref a) = (belowV ((h : Int) + 1) x && belowV ((2 : Int) ^ (h - iV x)) y) := by unfold nodeB; rw [e]
      rw [en] at q
      refine iteT ⟨_, rfl, _, _, rfl, rfl, _, rfl, a, _, _, x, rfl, rfl, .of ha, atI_nat (j := 0) rfl, b, _, x, rfl, tx, _, rfl, ?_⟩
      cases hx : belowV ((h : Int) + 1) x with
      | false =>
        rw [hx] at q
        exact iteF q
      | true =>
        rw [hx] at q
        cases x with
        | int i =>
          have hi := of_decide_eq_true (show decide (0 ≤ i ∧ i < (h : Int) + 1) = true from hx)
          refine iteT ⟨_, rfl, _, rfl, a, _, _, .int i, rfl, rfl, .of ha, atI_nat (j := 0) rfl, _, _, rfl, rfl, _, _, rfl, rfl, ⟨by omega, by omega, by decide⟩, _, rfl, a, _, _, y, rfl, rfl, .of ha, atI_nat (j := 1) rfl, b, _, y, rfl, ty, ?_⟩
          have e3 : (1 * 2 ^ ((h : Int) - i).toNat : Int) = (2 : Int) ^ (h - iV (.int i)) := by
            rw [Int.one_mul]
            congr 1
            show ((h : Int) - i).toNat = h - i.toNat
            omega
          rw [e3]
          exact q
        | _ => cases hx
end
end L2.My
end
section
set_option Elab.async false
set_option linter.all false
set_option maxRecDepth 100000
set_option maxHeartbeats 4000000
/-! is_kept_node, is_nodes. -/
namespace L2.My
open PySem PySem.Spec PyProof.Rows
abbrev sKept : Stmt := top 22
abbrev sNods : Stmt := top 23
abbrev rShr : R2 := rI (fun _ j => 0 ≤ j) fun i j => .int (i / 2 ^ j.toNat)
theorem keptB_no {H : Hp} {h : Nat} {ls : List V} {v : V} (e : tupOf H v = none) : keptB H h ls v = false := by unfold keptB; rw [e]
theorem keptB_len {H : Hp} {h : Nat} {ls : List V} {v : V} {xs : List V} (e : tupOf H v = some xs) (n : xs.length ≠ 3) : keptB H h ls v = false := by
  unfold keptB
  rw [e]
  match xs, n with
  | [], _ => rfl
  | [_], _ => rfl
  | [_, _], _ => rfl
  | [_, _, _], n => exact absurd rfl n
  | _ :: _ :: _ :: _ :: _, _ => rfl
theorem keptB_at {H : Hp} {h : Nat} {ls : List V} {v n l a : V} (e : tupOf H v = some [n, l, a]) : keptB H h ls v = (nodeB H h n && (decide (levV H n ≠ 0) && (numV l && asideB H ls (levV H n) (atV H n) a))) := by unfold keptB; rw [e]
theorem asideB_no {H : Hp} {ls : List V} {p q : Nat} {v : V} (e : tupOf H v = none) : asideB H ls p q v = false := by unfold asideB; rw [e]
theorem asideB_at {H : Hp} {ls : List V} {p q : Nat} {v : V} {xs : List V} (e : tupOf H v = some xs) : asideB H ls p q v = (xs.all (belowV (ls.length : Int)) && (ascBy ltI (xs.map intV) && xs.all fun x => decide (iV x / 2 ^ p = q) && notNon (ls.getD (iV x) .non))) := by unfold asideB; rw [e]
theorem below_int {n : Int} {v : V} (h : belowV n v = true) : v = .int (iV v : Nat) ∧ ((iV v : Nat) : Int) < n ∧ intV v = (iV v : Nat) := by
  cases v with
  | int i =>
    have hi := of_decide_eq_true (show decide (0 ≤ i ∧ i < n) = true from h)
    have e : ((iV (.int i) : Nat) : Int) = i := by
      show ((i.toNat : Nat) : Int) = i
      omega
    rw [e]
    exact ⟨rfl, hi.2, rfl⟩
  | _ => cases h
theorem ints_all {n : Int} : ∀ {xs : List V}, xs.all (belowV n) = true → xs = (xs.map intV).map V.int
  | [], _ => rfl
  | x :: r, h => by
    rw [List.all_cons, Bool.and_eq_true] at h
    obtain ⟨h1, _, h3⟩ := below_int h.1
    rw [List.map_cons, List.map_cons, ← ints_all h.2, h3, ← h1]
/-- what passed is_node -/
theorem node_of {b : Addr} {H : Hp} {h : Nat} {v : V} (t : Thg b H v) (e : nodeB H h v = true) : ∃ a, v = .ref a ∧ H a = some (.tup [.int (levV H v : Nat), .int (atV H v : Nat)]) ∧ tupOf H v = some [.int (levV H v : Nat), .int (atV H v : Nat)] ∧ levV H v ≤ h ∧ ((atV H v : Nat) : Int) < (2 : Int) ^ (h - levV H v) ∧ nodI H v = [((levV H v : Nat) : Int), ((atV H v : Nat) : Int)] := by
  have hp : pairB H v = true := by
    unfold nodeB at e
    unfold pairB
    split at e
    · rfl
    · cases e
  obtain ⟨a, x, y, rfl, ha, ep, tx, ty⟩ := pair_of t hp
  have en : nodeB H h (.ref a) = (belowV ((h : Int) + 1) x && belowV ((2 : Int) ^ (h - iV x)) y) := by unfold nodeB; rw [ep]
  have e1 : levV H (.ref a) = iV x := by unfold levV; rw [ep]
  have e2 : atV H (.ref a) = iV y := by unfold atV; rw [ep]
  have e3 : nodI H (.ref a) = [intV x, intV y] := by unfold nodI; rw [ep]; rfl
  rw [en, Bool.and_eq_true] at e
  obtain ⟨a1, a2, a3⟩ := below_int e.1
  obtain ⟨b1, b2, b3⟩ := below_int e.2
  rw [e1, e2, e3, a3, b3, ← a1, ← b1]
  exact ⟨a, rfl, ha, ep, by omega, b2, rfl⟩
def spKept : Sp := fun vs H Q _ => ∃ (b : Addr) (h : Nat) (la : Addr) (ls : List V) (v : V), vs = [.int (h : Int), .ref la, v] ∧ h ≤ 8 ∧ TF H la ls ∧ Thg b H v ∧ ∀ H', Same H H' → Q (.bl (keptB H h ls v)) H'
def spNods : Sp := fun vs H Q _ => ∃ (b : Addr) (h : Nat) (la : Addr) (ls : List V) (v : V), vs = [.int (h : Int), .ref la, v] ∧ h ≤ 8 ∧ TF H la ls ∧ Thg b H v ∧ ∀ H', Same H H' → Q (.bl (nodesB H h ls v)) H'
section
variable {P : Program} {w : World} {K : PySem.W.Frag} {mg : Str → Option Value} {base : Heap}
abbrev nKp : List Str := ["height", "leaves", "thing", "node", "lock", "aside", "leaf"]
theorem scKp : FnScope nKp ["height", "leaves", "thing"] (defScope sKept) := ⟨rfl, rfl, rfl, by decide +kernel, rfl, by decide +kernel, by decide +kernel⟩
theorem ok_kept {f : Addr} {fd : FuncData} {k : Nat} (F : Fun K "is_kept_node" "is_kept_node" sKept f fd) (T : Tx mg) (cN : Cal P w K mg base (k + 2) "is_node" ["height", "thing"] spNode) (cU : Cal P w K mg base (k + 2) "is_number" ["thing"] spNumb) (cB : Cal P w K mg base (k + 2) "is_below" ["bound", "thing"] spBelow) (cA : Cal P w K mg base (k + 2) "ascends" ["things"] spAsc) : FnOk P w K mg base CX0 (k + 3) f fd ["height", "leaves", "thing"] spKept := by
  refine F.ok scKp (fun vs H Q E h => ?_) (fun cdv A outer s H vs Q E hr h => ?_)
  · obtain ⟨b, h, la, ls, v, rfl, _⟩ := h
    rfl
  · obtain ⟨b, h, la, ls, v, rfl, hh, hla, hv, q⟩ := h
    obtain ⟨t, ht⟩ := hv.th
    refine ⟨_, (pss_cons (ps_if (pt_or (pt_not (pt_val (pe_callB call_isTh (by rfl) T.isi (by decide +kernel) (pa_cons (pv 2) (pa_cons (pe_bltn (v := .ty "tuple") (u := .type "tuple") (by rfl) T.tuple_ (by decide +kernel) rfl) pa_nil))))) (pw_or1 (pt_cmpR op_ne (pe_callB call_len_seq (by rfl) T.len_ PySem.boot_len (pa_cons (pv 2) pa_nil)) pe_int (nomark _)))) (pss_one (ps_ret pe_bl)) pss_nil) (pss_cons (ps_asg (pv 2) (pg_tup rfl (pgs_cons (pg_name (i := 3) scKp.nd rfl (Or.inr rfl)) (pgs_cons (pg_name (i := 4) scKp.nd rfl (Or.inl rfl)) (pgs_cons (pg_name (i := 5) scKp.nd rfl (Or.inl rfl)) pgs_nil))))) (pss_cons (ps_if (pt_or (pt_not (pt_val (pe_c cN hr (by omega) (by rfl) (pa_cons (pv 0) (pa_cons (pv 3) pa_nil))))) (pw_or (pt_cmpR op_eq (pe_ix ix_tup (pv 3) pe_int (fun _ _ => rfl)) pe_int (nomark _)) (pw_or (pt_not (pt_val (pe_c cU hr (by omega) (by rfl) (pa_cons (pv 4) pa_nil)))) (pw_or1 (pt_not (pt_val (pe_callB call_isTh (by rfl) T.isi (by decide +kernel) (pa_cons (pv 5) (pa_cons (pe_bltn (v := .ty "tuple") (u := .type "tuple") (by rfl) T.tuple_ (by decide +kernel) rfl) pa_nil))))))))) (pss_one (ps_ret pe_bl)) pss_nil) (pss_cons (ps_if (pt_or (pt_not (pt_val (pe_callB (cr_all rfl) (by rfl) T.all_ (by decide +kernel) (pa_cons (pe_lc (own := [("leaf", 6)]) (g := gName 6) (te := tCall spBelow [] E0 (tCons (tCB (rLenS K) (tCons (tVar 1) tNil)) (tCons (tVar 6) tNil))) rfl scKp.nd (pi_tup (pv 5)) (blkOk_by (N := nKp) (sc := defScope sKept) (by decide +kernel)) (fun _ _ _ _ _ => pg_name (i := 6) scKp.nd rfl (Or.inl rfl)) (fun _ _ _ _ _ => pts_nil) (fun _ _ _ _ _ => (pe_c cB hr (by omega) (by rfl) (pa_cons (pe_callB call_len_seq (by rfl) T.len_ PySem.boot_len (pa_cons (pv 1) pa_nil)) (pa_cons (pv 6) pa_nil))))) pa_nil)))) (pw_or1 (pt_not (pt_val (pe_c cA hr (by omega) (by rfl) (pa_cons (pv 5) pa_nil)))))) (pss_one (ps_ret pe_bl)) pss_nil) (pss_one (ps_ret (pe_callB (cr_all rfl) (by rfl) T.all_ (by decide +kernel) (pa_cons (pe_lc (own := [("leaf", 6)]) (g := gName 6) (te := tAndV (tOp rEq (tOp rShr (tVar 6) (tOp (rIxT K) (tVar 3) (tC (.int 0)))) (tOp (rIxT K) (tVar 3) (tC (.int 1)))) (tOp rNotN (tOp (rIxT K) (tVar 1) (tVar 6)) (tC .non))) rfl scKp.nd (pi_tup (pv 5)) (blkOk_by (N := nKp) (sc := defScope sKept) (by decide +kernel)) (fun _ _ _ _ _ => pg_name (i := 6) scKp.nd rfl (Or.inl rfl)) (fun _ _ _ _ _ => pts_nil) (fun _ _ _ _ _ => (pe_and (pe_cmpR op_eq (pe_op op_shr (pv 6) (pe_ix ix_tup (pv 3) pe_int (fun _ _ => rfl))) (pe_ix ix_tup (pv 3) pe_int (fun _ _ => rfl)) (nomark _)) (pe_one (pe_cmpR op_notN (pe_ix ix_tup (pv 1) (pv 6) (fun _ _ => rfl)) pe_non (nomark _)))))) pa_nil)))))))), ?_⟩
    refine ⟨_, rfl, _, "tuple", t, rfl, ht, by decide, _, rfl, ?_⟩
    rcases tup_cases ht with ⟨a, xs, rfl, hx, e, rfl⟩ | ⟨e1, e2⟩
    rotate_left
    · rw [e2]
      rw [keptB_no e1] at q
      exact iteT (q _ (Same.refl _))
    obtain ⟨hl, hxs⟩ := hv.sub hx
    refine iteF ⟨_, rfl, a, xs, rfl, .inr (.of hx), rfl, _, rfl, ?_⟩
    have hd : decide (V.int (xs.length : Nat) = V.int 3) = decide (xs.length = 3) := by
      rw [dec_int, Bool.eq_iff_iff, beq_iff_eq, decide_eq_true_iff]
      omega
    rw [hd]
    by_cases h3 : xs.length = 3
    rotate_left
    · rw [decide_eq_false h3]
      rw [keptB_len e h3] at q
      exact iteT (q _ (Same.refl _))
    rw [decide_eq_true h3]
    obtain ⟨n, l, c, rfl⟩ : ∃ n l c, xs = [n, l, c] := by
      match xs, h3 with
      | [n, l, c], _ => exact ⟨n, l, c, rfl⟩
    rw [keptB_at e] at q
    have tn := hxs n (by simp)
    have tl := hxs l (by simp)
    have tc := hxs c (by simp)
    refine iteF ⟨_, rfl, a, _, rfl, .of hx, rfl, _, _, rfl, _, _, rfl, _, _, rfl, rfl, ?_⟩
    refine ⟨_, rfl, _, rfl, b, h, n, rfl, hh, tn, _, rfl, ?_⟩
    cases hn : nodeB H h n with
    | false =>
      rw [hn] at q
      exact iteT (q _ (Same.refl _))
    | true =>
    rw [hn, Bool.true_and] at q
    obtain ⟨na, rfl, hna, ena, hlev, hat, _⟩ := node_of tn hn
    generalize levV H (.ref na) = lev at *
    generalize atV H (.ref na) = at' at *
    refine iteF ⟨_, rfl, na, _, _, .int (lev : Nat), rfl, rfl, .of hna, atI_nat (j := 0) rfl, rfl, _, rfl, ?_⟩
    have hd0 : decide (V.int (lev : Nat) = V.int 0) = !decide (lev ≠ 0) := by
      rw [dec_int]
      by_cases z : lev = 0
      · rw [z]; rfl
      · rw [decide_eq_true z, Bool.not_true, beq_eq_false_iff_ne]
        omega
    rw [hd0]
    cases hz : decide (lev ≠ 0) with
    | false =>
      rw [hz] at q
      exact iteT (q _ (Same.refl _))
    | true =>
    rw [hz, Bool.true_and] at q
    refine iteF ⟨_, rfl, b, l, rfl, tl, _, rfl, ?_⟩
    cases hu : numV l with
    | false =>
      rw [hu] at q
      exact iteT (q _ (Same.refl _))
    | true =>
    rw [hu, Bool.true_and] at q
    obtain ⟨t2, ht2⟩ := tc.th
    refine iteF ⟨_, rfl, _, "tuple", t2, rfl, ht2, by decide, _, rfl, ?_⟩
    rcases tup_cases ht2 with ⟨c, ys, rfl, hc, ec, rfl⟩ | ⟨e1, e2⟩
    rotate_left
    · rw [e2]
      rw [asideB_no e1] at q
      exact iteT (q _ (Same.refl _))
    rw [asideB_at ec] at q
    obtain ⟨hyl, hys⟩ := tc.sub hc
    refine iteF ⟨_, rfl, c, rfl, ⟨_, .of hc⟩, fun D nD => ?_⟩
    refine lcP walk_tup (fun i => V.bl (belowV (ls.length : Int) (ys.getD i .non))) (Nat.lt_of_le_of_lt hyl (by decide)) nD (fun _ sm => .of (sm _ _ hc)) ?_ ?_
    · rintro i y G3 G4 Q' hi sm ⟨rfl, hy⟩ hq
      have eg : ys.getD i .non = y := by rw [List.getD_eq_getElem?_getD, hy]; rfl
      rw [eg] at hq
      exact ⟨rfl, _, rfl, la, _, rfl, .inr (hla.same sm).sq, _, rfl, b, _, y, rfl, (hys y (List.mem_of_getElem? hy)).same sm, hq _ (Same.refl _)⟩
    intro G sm hd1
    refine ⟨D, (List.range ys.length).map fun i => belowV (ls.length : Int) (ys.getD i .non), rfl, .inl (.inl (by rw [hd1, List.map_map]; rfl)), _, rfl, ?_⟩
    rw [range_all]
    cases hb : ys.all (belowV (ls.length : Int)) with
    | false =>
      rw [hb] at q
      exact iteT (q _ sm)
    | true =>
    rw [hb, Bool.true_and] at q
    have hcG := sm _ _ hc
    refine iteF ⟨_, rfl, c, ys, rfl, .inr hcG, hyl, .inl ⟨_, ints_all hb, fun G2 s2 => ⟨_, rfl, ?_⟩⟩⟩
    cases hasc : ascBy ltI (ys.map intV) with
    | false =>
      rw [hasc] at q
      exact iteT (q _ (sm.trans s2))
    | true =>
    rw [hasc, Bool.true_and] at q
    have s02 := sm.trans s2
    refine iteF ⟨_, rfl, c, rfl, ⟨_, .of (s02 _ _ hc)⟩, fun D2 nD2 => ?_⟩
    refine lcP walk_tup (fun i => V.bl ((fun x => decide (iV x / 2 ^ lev = at') && notNon (ls.getD (iV x) .non)) (ys.getD i .non))) (Nat.lt_of_le_of_lt hyl (by decide)) nD2 (fun _ s3 => .of (s3 _ _ (s02 _ _ hc))) ?_ ?_
    · rintro i y G3 G4 Q' hi s3 ⟨rfl, hy⟩ hq
      have eg : ys.getD i .non = y := by rw [List.getD_eq_getElem?_getD, hy]; rfl
      rw [eg] at hq
      have s03 := s02.trans s3
      obtain ⟨y1, y2, y3⟩ := below_int (List.all_eq_true.mp hb y (List.mem_of_getElem? hy))
      have hna3 := s03 _ _ hna
      have hq2 : ∀ H4, Same G4 H4 → Q' (V.bl (decide (iV y / 2 ^ lev = at') && notNon (ls.getD (iV y) .non))) H4 := hq
      clear hq
      generalize hj : iV y = j at *
      refine ⟨rfl, ?_⟩
      rw [y1]
      refine ⟨_, rfl, _, rfl, na, _, _, .int (lev : Nat), rfl, rfl, .of hna3, atI_nat (j := 0) rfl, _, _, rfl, rfl, by omega, _, rfl, na, _, _, .int (at' : Nat), rfl, rfl, .of hna3, atI_nat (j := 1) rfl, rfl, _, rfl, ?_⟩
      have e5 : decide (V.int (((j : Nat) : Int) / 2 ^ ((lev : Nat) : Int).toNat) = V.int (at' : Nat)) = decide (j / 2 ^ lev = at') := by
        have e6 : (((j : Nat) : Int) / 2 ^ ((lev : Nat) : Int).toNat) = ((j / 2 ^ lev : Nat) : Int) := by
          rw [Int.toNat_natCast]
          push_cast
          rfl
        rw [e6, dec_int, Bool.eq_iff_iff, beq_iff_eq, decide_eq_true_iff]
        omega
      rw [e5]
      cases h5 : decide (j / 2 ^ lev = at') with
      | false =>
        rw [h5] at hq2
        exact iteF (hq2 _ (Same.refl _))
      | true =>
        rw [h5, Bool.true_and] at hq2
        have hjl : j < ls.length := by omega
        have ej : ls[j]? = some ls[j] := List.getElem?_eq_getElem hjl
        have eg2 : ls.getD j .non = ls[j] := by rw [List.getD_eq_getElem?_getD, ej]; rfl
        rw [eg2] at hq2
        refine iteT ⟨_, rfl, _, rfl, la, _, _, ls[j], rfl, rfl, (hla.same s03).sq, atI_nat ej, rfl, ?_⟩
        rw [nonN]
        exact hq2 _ (Same.refl _)
    intro G3 s3 hd3
    refine ⟨D2, (List.range ys.length).map fun i => (fun x => decide (iV x / 2 ^ lev = at') && notNon (ls.getD (iV x) .non)) (ys.getD i .non), rfl, .inl (.inl (by rw [hd3, List.map_map]; rfl)), ?_⟩
    rw [range_all (fun x => decide (iV x / 2 ^ lev = at') && notNon (ls.getD (iV x) .non))]
    exact q _ (s02.trans s3)
theorem nodesB_no {H : Hp} {h : Nat} {ls : List V} {v : V} (e : tupOf H v = none) : nodesB H h ls v = false := by unfold nodesB; rw [e]
theorem nodesB_at {H : Hp} {h : Nat} {ls : List V} {v : V} {xs : List V} (e : tupOf H v = some xs) : nodesB H h ls v = (xs.all (keptB H h ls) && ascBy HT.lexLt (xs.map (rowI H))) := by unfold nodesB; rw [e]
theorem levV_bl {b : Addr} {H H' : Hp} {v : V} (t : Thg b H v) (s : BL [b] H H') : levV H' v = levV H v := by unfold levV; rw [tupOf_bl t s]
theorem atV_bl {b : Addr} {H H' : Hp} {v : V} (t : Thg b H v) (s : BL [b] H H') : atV H' v = atV H v := by unfold atV; rw [tupOf_bl t s]
theorem nodeB_bl {b : Addr} {H H' : Hp} {h : Nat} {v : V} (t : Thg b H v) (s : BL [b] H H') : nodeB H' h v = nodeB H h v := by unfold nodeB; rw [tupOf_bl t s]
theorem nodI_bl {b : Addr} {H H' : Hp} {v : V} (t : Thg b H v) (s : BL [b] H H') : nodI H' v = nodI H v := by unfold nodI; rw [tupOf_bl t s]
theorem asideB_bl {b : Addr} {H H' : Hp} {ls : List V} {p q : Nat} {v : V} (t : Thg b H v) (s : BL [b] H H') : asideB H' ls p q v = asideB H ls p q v := by unfold asideB; rw [tupOf_bl t s]
theorem keptB_bl {b : Addr} {H H' : Hp} {h : Nat} {ls : List V} {v : V} (t : Thg b H v) (s : BL [b] H H') : keptB H' h ls v = keptB H h ls v := by
  cases e : tupOf H v with
  | none => rw [keptB_no e, keptB_no ((tupOf_bl t s).trans e)]
  | some xs =>
    obtain ⟨a, _, _, _, q⟩ := tupOf_sub t e
    by_cases h3 : xs.length = 3
    · obtain ⟨n, l, c, rfl⟩ : ∃ n l c, xs = [n, l, c] := by
        match xs, h3 with
        | [n, l, c], _ => exact ⟨n, l, c, rfl⟩
      have tn := q n (by simp)
      rw [keptB_at e, keptB_at ((tupOf_bl t s).trans e), nodeB_bl tn s, levV_bl tn s, atV_bl tn s, asideB_bl (q c (by simp)) s]
    · rw [keptB_len e h3, keptB_len ((tupOf_bl t s).trans e) h3]
theorem rowI_bl {b : Addr} {H H' : Hp} {v : V} (t : Thg b H v) (s : BL [b] H H') : rowI H' v = rowI H v := by
  unfold rowI
  rw [tupOf_bl t s]
  cases e : tupOf H v with
  | none => rfl
  | some xs =>
    obtain ⟨a, _, _, _, q⟩ := tupOf_sub t e
    match xs, q with
    | [], _ => rfl
    | x :: r, q => exact nodI_bl (q x (by simp)) s
/-- a row that passed -/
theorem kept_of {b : Addr} {H : Hp} {h : Nat} {ls : List V} {v : V} (t : Thg b H v) (e : keptB H h ls v = true) : ∃ a na l c, v = .ref a ∧ H a = some (.tup [.ref na, l, c]) ∧ tupOf H v = some [.ref na, l, c] ∧ nodeB H h (.ref na) = true ∧ levV H (.ref na) ≠ 0 ∧ numV l = true ∧ asideB H ls (levV H (.ref na)) (atV H (.ref na)) c = true ∧ Thg b H (.ref na) ∧ Thg b H l ∧ Thg b H c ∧ rowI H v = nodI H (.ref na) := by
  cases et : tupOf H v with
  | none => rw [keptB_no et] at e; cases e
  | some xs =>
    by_cases h3 : xs.length = 3
    rotate_left
    · rw [keptB_len et h3] at e; cases e
    obtain ⟨n, l, c, rfl⟩ : ∃ n l c, xs = [n, l, c] := by
      match xs, h3 with
      | [n, l, c], _ => exact ⟨n, l, c, rfl⟩
    obtain ⟨a, rfl, ha, _, q⟩ := tupOf_sub t et
    rw [keptB_at et, Bool.and_eq_true, Bool.and_eq_true, Bool.and_eq_true] at e
    obtain ⟨e1, e2, e3, e4⟩ := e
    have tn := q n (by simp)
    obtain ⟨na, rfl, hna, ena, _⟩ := node_of tn e1
    refine ⟨a, na, l, c, rfl, ha, rfl, e1, of_decide_eq_true e2, e3, e4, tn, q l (by simp), q c (by simp), ?_⟩
    unfold rowI
    rw [et]
theorem scNd : FnScope ["height", "leaves", "thing", "row"] ["height", "leaves", "thing"] (defScope sNods) := ⟨rfl, rfl, rfl, by decide +kernel, rfl, by decide +kernel, by decide +kernel⟩
theorem ok_nods {f : Addr} {fd : FuncData} {k : Nat} (F : Fun K "is_nodes" "is_nodes" sNods f fd) (T : Tx mg) (cK : Cal P w K mg base (k + 3) "is_kept_node" ["height", "leaves", "thing"] spKept) (cA : Cal P w K mg base (k + 3) "ascends" ["things"] spAsc) : FnOk P w K mg base CX0 (k + 4) f fd ["height", "leaves", "thing"] spNods := by
  refine F.ok scNd (fun vs H Q E h => ?_) (fun cdv A outer s H vs Q E hr h => ?_)
  · obtain ⟨b, h, la, ls, v, rfl, _⟩ := h
    rfl
  · obtain ⟨b, h, la, ls, v, rfl, hh, hla, hv, q⟩ := h
    obtain ⟨t, ht⟩ := hv.th
    refine ⟨_, (pss_cons (ps_if (pt_or (pt_not (pt_val (pe_callB call_isTh (by rfl) T.isi (by decide +kernel) (pa_cons (pv 2) (pa_cons (pe_bltn (v := .ty "tuple") (u := .type "tuple") (by rfl) T.tuple_ (by decide +kernel) rfl) pa_nil))))) (pw_or1 (pt_not (pt_val (pe_callB (cr_all rfl) (by rfl) T.all_ (by decide +kernel) (pa_cons (pe_lc (own := [("row", 3)]) (g := gName 3) (te := tCall spKept [] E0 (tCons (tVar 0) (tCons (tVar 1) (tCons (tVar 3) tNil)))) rfl scNd.nd (pi_tup (pv 2)) (blkOk_by (N := ["height", "leaves", "thing", "row"]) (sc := defScope sNods) (by decide +kernel)) (fun _ _ _ _ _ => pg_name (i := 3) scNd.nd rfl (Or.inl rfl)) (fun _ _ _ _ _ => pts_nil) (fun _ _ _ _ _ => (pe_c cK hr (by omega) (by rfl) (pa_cons (pv 0) (pa_cons (pv 1) (pa_cons (pv 3) pa_nil)))))) pa_nil)))))) (pss_one (ps_ret pe_bl)) pss_nil) (pss_one (ps_ret (pe_c cA hr (by omega) (by rfl) (pa_cons (pe_lc (own := [("row", 3)]) (g := gName 3) (te := tOp (rIxT K) (tVar 3) (tC (.int 0))) rfl scNd.nd (pi_tup (pv 2)) (blkOk_by (N := ["height", "leaves", "thing", "row"]) (sc := defScope sNods) (by decide +kernel)) (fun _ _ _ _ _ => pg_name (i := 3) scNd.nd rfl (Or.inl rfl)) (fun _ _ _ _ _ => pts_nil) (fun _ _ _ _ _ => (pe_ix ix_tup (pv 3) pe_int (fun _ _ => rfl)))) pa_nil))))), ?_⟩
    refine ⟨_, rfl, _, "tuple", t, rfl, ht, by decide, _, rfl, ?_⟩
    rcases tup_cases ht with ⟨a, xs, rfl, hx, e, rfl⟩ | ⟨e1, e2⟩
    rotate_left
    · rw [e2]
      rw [nodesB_no e1] at q
      exact iteT (q _ (Same.refl _))
    obtain ⟨hl, hxs⟩ := hv.sub hx
    rw [nodesB_at e] at q
    refine iteF ⟨_, rfl, a, rfl, ⟨_, .of hx⟩, fun D nD => ?_⟩
    refine lcP walk_tup (fun i => V.bl (keptB H h ls (xs.getD i .non))) (Nat.lt_of_le_of_lt hl (by decide)) nD (fun _ sm => .of (sm _ _ hx)) ?_ ?_
    · rintro i y G3 G4 Q' hi sm ⟨rfl, hy⟩ hq
      have eg : xs.getD i .non = y := by rw [List.getD_eq_getElem?_getD, hy]; rfl
      rw [eg] at hq
      have ty := hxs y (List.mem_of_getElem? hy)
      refine ⟨rfl, _, rfl, _, rfl, _, rfl, b, h, la, ls, y, rfl, hh, hla.same sm, ty.same sm, fun G5 s5 => ?_⟩
      rw [keptB_bl ty (.same sm)]
      exact hq _ s5
    intro G sm hd1
    refine ⟨D, (List.range xs.length).map fun i => keptB H h ls (xs.getD i .non), rfl, .inl (.inl (by rw [hd1, List.map_map]; rfl)), _, rfl, ?_⟩
    rw [range_all]
    cases hb : xs.all (keptB H h ls) with
    | false =>
      rw [hb] at q
      exact iteT (q _ sm)
    | true =>
    rw [hb, Bool.true_and] at q
    refine iteF ⟨_, rfl, a, rfl, ⟨_, .of (sm _ _ hx)⟩, fun D2 nD2 => ?_⟩
    have rw1 : ∀ x ∈ xs, ∃ (c na : Addr) (l d : V), x = V.ref c ∧ H c = some (.tup [.ref na, l, d]) ∧ H na = some (.tup ((rowI H x).map V.int)) := fun x hm => by
      obtain ⟨c, na, l, d, e1, e2, _, e4, _, _, _, e8, _, _, e9⟩ := kept_of (hxs x hm) (List.all_eq_true.mp hb x hm)
      obtain ⟨na', e10, e11, _, _, _, e12⟩ := node_of e8 e4
      cases e10
      rw [e9, e12]
      exact ⟨c, na, l, d, e1, e2, e11⟩
    have fst : ∃ as : List Addr, as.length = xs.length ∧ Paired (fun a p => H a = some (.tup (p.map V.int))) as (xs.map (rowI H)) ∧ ∀ (i : Nat) (x : V), xs[i]? = some x → ∃ (c na : Addr) (l d : V), x = V.ref c ∧ H c = some (.tup [.ref na, l, d]) ∧ as[i]? = some na := by
      clear hd1 hb q hx e hl hxs hv ht
      induction xs with
      | nil => exact ⟨[], rfl, .nil, by simp⟩
      | cons x r ih =>
        obtain ⟨as, h1, h2, h3⟩ := ih (fun y hy => rw1 y (List.mem_cons_of_mem _ hy))
        obtain ⟨c, na, l, d, e1, e2, e3⟩ := rw1 x List.mem_cons_self
        refine ⟨na :: as, by simp [h1], .cons e3 h2, fun i y hy => ?_⟩
        cases i with
        | zero =>
          rw [List.getElem?_cons_zero] at hy
          cases hy
          exact ⟨c, na, l, d, e1, e2, rfl⟩
        | succ i => rw [List.getElem?_cons_succ] at hy ⊢; exact h3 i y hy
    obtain ⟨as, hal, hap, hai⟩ := fst
    refine lcP walk_tup (fun i => (as.map V.ref).getD i .non) (Nat.lt_of_le_of_lt hl (by decide)) nD2 (fun _ s2 => .of (s2 _ _ (sm _ _ hx))) ?_ ?_
    · rintro i y G3 G4 Q' hi s2 ⟨rfl, hy⟩ hq
      obtain ⟨c, na, l, d, rfl, e2, e3⟩ := hai i y hy
      have eg : (as.map V.ref).getD i .non = .ref na := by rw [List.getD_eq_getElem?_getD, List.getElem?_map, e3]; rfl
      rw [eg] at hq
      exact ⟨rfl, _, rfl, c, _, _, .ref na, rfl, rfl, .of (s2 _ _ (sm _ _ e2)), atI_nat (j := 0) rfl, hq _ (Same.refl _)⟩
    intro G3 s3 hd3
    have el : (List.range xs.length).map (fun i => (as.map V.ref).getD i .non) = as.map V.ref := by
      rw [← hal, ← List.length_map (f := V.ref)]
      apply List.ext_getElem
      · simp
      · intro i h1 h2
        rw [List.getElem_map, List.getElem_range, List.getD_eq_getElem?_getD, List.getElem?_eq_getElem h2]; rfl
    rw [el] at hd3
    have s03 := sm.trans s3
    exact ⟨D2, _, rfl, .inl hd3, by rw [List.length_map, hal]; exact hl, .inr ⟨as, _, rfl, Paired.mapP hap fun _ _ z => s03 _ _ z, fun G4 s4 => q _ (s03.trans s4)⟩⟩
end
end L2.My
end
section
set_option Elab.async false
set_option linter.all false
set_option maxRecDepth 100000
set_option maxHeartbeats 4000000
/-! == and != of an instance whose class has its own ==. -/
namespace L2.My
open PySem PySem.Spec PyProof.Rows
section
variable {M : Model} {prog : Program} {w : World} {A : Around} {E : Value → Shared → Prop} {s : Shared} {K : PySem.W.Frag} {x C f L : Addr} {ox : Obj} {od : Option Obj} {b tb : Value} {h₀ : Heap} {m : Str → Option Value}
theorem ne_entry {Q : Fin → Shared → Prop} (hu : A.units < cLine) (X : K.In s.heap) (I : PySem.W.InstAt s.heap x ox C od) (hs : PySem.W.findIn K (.ref C) "__eq__" = some (some (.ref f))) (hf : PySem.W.isFn K (.ref f) = true)
    (h : wpAny (model prog w) A (call (.ref f) [.ref x, b]) (fun v s' => ∃ c, v = .bool c ∧ Q (.done (.ret (.bool (!c)))) s') E s) : wpAny (model prog w) A (Builtin.«object.__ne__» ⟨[.ref x, b], []⟩) Q E s := by
  unfold Builtin.«object.__ne__»
  repeat (first
    | with_reducible refine wpAny_cRoomFor hu ?_
    | (refine wpAny_bind (m := callSpecialIfBound? (.ref x) (Str.ofString "__eq__") [b])
        (PySem.W.ifBound_K X I hs hf (wpAny_mono h (fun r s' hr => by
          obtain ⟨c, rfl, hq⟩ := hr
          repeat (first | exact hq | exact wpAny_pure hq | exact wpAny_truthy_bool hq | (refine wpAny_bind (m := truthy (.bool _)) (wpAny_truthy_bool ?_)) | wp_step)) fun _ _ e => e)))
    | wp_step)
theorem ifBound_ne {args : List Value} {Q : Option Value → Shared → Prop} (X : K.In s.heap) (I : PySem.W.InstAt s.heap x ox C od) (hs : PySem.W.findIn K (.ref C) "__ne__" = some (some (.builtin "object.__ne__")))
    (h : wpAny M A (call (.builtin "object.__ne__") (.ref x :: args)) (fun v => Q (some v)) E s) : wpAny M A (callSpecialIfBound? (.ref x) "__ne__" args) Q E s := by
  simp only [callSpecialIfBound?, bindSpecialIfBound?]
  refine wpAny_holding (wpAny_bind (wpAny_bind (wpAny_bind (I.type.here ((PySem.W.looks_findIn X hs).here ?_)))))
  refine wpAny_bind (wpAny_askSetting (wpAny_ite ?_))
  have fin : wpAny M A (call (.builtin "object.__ne__") ([.ref x] ++ args) >>= fun v => pure (some v)) Q E s := wpAny_bind (wpAny_mono h (fun v s' h' => wpAny_pure h') fun _ _ h' => h')
  split
  · exact wpAny_bind (wpAny_of_eq (F.cmp_object.ne.bind _) (wpAny_pure (by exact fin)))
  · exact wpAny_tryCatch (wpAny_bind (wpAny_of_eq (F.cmp_object.ne.bind _) (wpAny_pure (by exact fin))))
theorem ne_K {Q : Value → Shared → Prop} (hu : A.units + 1 < cLine) (X : K.In s.heap) (I : PySem.W.InstAt s.heap x ox C od) (hb : PySem.W.Looks (model prog w) s.heap (typeOf b) tb) (hn : PySem.W.notFirst K C tb = true)
    (hs : PySem.W.findIn K (.ref C) "__eq__" = some (some (.ref f))) (hf : PySem.W.isFn K (.ref f) = true) (hne : PySem.W.findIn K (.ref C) "__ne__" = some (some (.builtin "object.__ne__"))) (hm : PySem.W.mroIn K C (.type "object") = some true)
    (h : wpAny (model prog w) A.in1 (call (.ref f) [.ref x, b]) (fun v s' => ∃ c, v = .bool c ∧ Q (.bool (!c)) s') E s) : wpAny (model prog w) A (richCompare .NotEq (.ref x) b) Q E s := by
  have one : wpAny (model prog w) A (tryCompare (.ref x) "__ne__" b) (fun r s' => ∃ v, r = some v ∧ Q v s') E s := by
    unfold tryCompare
    refine wpAny_bind (ifBound_ne X I hne (wpAny_call (codeAny_call_builtin F.cmp_object.ne.plain F.cmpEntry_ne (PySem.W.check_slot F.cmpKind_ne F.cmpSplit_ne (I.type.andThen (PySem.W.looks_mroIn X hm)) (F.cmpArgs_ne _ _)
      (ne_entry (A := A.in1) hu X I hs hf (wpAny_mono h (fun v s' hv => ?_) fun _ _ e => e))))))
    obtain ⟨c, rfl, hq⟩ := hv
    exact ⟨c, rfl, wpAny_pure ⟨_, rfl, hq⟩⟩
  unfold richCompare
  simp only [oneThing_ref]
  refine wpAny_holding (wpAny_bind (wpAny_cRoomFor (by omega) ?_))
  refine wpAny_bind (I.type.here (wpAny_bind (hb.here ?_)))
  split
  · rename_i q
    have e : PySem.W.subIn K tb (.ref C) = some false := by
      rcases Bool.or_eq_true_iff.mp hn with e | e
      · rw [beq_iff_eq.mp e] at q; simp at q
      · exact beq_iff_eq.mp e
    refine wpAny_bind ((PySem.W.looks_subIn X e).here ?_)
    simp only [Bool.false_eq_true, if_false]
    refine wpAny_bind (wpAny_mono one (fun r s' z => ?_) fun _ _ e => e)
    obtain ⟨v, rfl, hq⟩ := z
    exact wpAny_pure hq
  · refine wpAny_bind (wpAny_pure ?_)
    simp only [Bool.false_eq_true, if_false]
    refine wpAny_bind (wpAny_mono one (fun r s' z => ?_) fun _ _ e => e)
    obtain ⟨v, rfl, hq⟩ := z
    exact wpAny_pure hq
end
/-- the type of a value, as the right side of a comparison -/
def rOwnEq (K : PySem.W.Frag) (C : Addr) (sp : Sp) (neg : Bool) : R2 := fun x y H Q => ∃ a dx fs tb, x = .ref a ∧ H a = some (.ins C dx fs) ∧ TyX K H y tb ∧ PySem.W.notFirst K C tb = true ∧ sp [x, y] H (fun v H' => ∃ c, v = .bl c ∧ Q (.bl (if neg then !c else c)) H') E0
section
variable {X : Cx} {n : Nat} {CX : CXT} {C f : Addr} {fd : FuncData} {ps : List Str} {sp : Sp}
theorem looks_of {pins : List (Addr × Obj)} {σ : St} {H : Hp} {s : Shared} {y : V} {u tb : Value} (I : Inv X pins σ H s) (ry : RelV y u) (t : TyX X.K H y tb) : PySem.W.Looks (model X.prog X.w) s.heap (typeOf u) tb := by
  obtain ⟨P, Z, p, hx⟩ := kit_of I ry t
  exact Z.ty _ _ I.kIn p
theorem run_own {A : Around} {pins : List (Addr × Obj)} {σ : St} {H : Hp} {s : Shared} {x y : V} {u v : Value} {R0 : VK} {R : Value → Shared → Prop} (F : FnOk X.prog X.w X.K X.mg X.base CX n f fd ps sp) (hb : Binds X.K fd ps []) (hx : Passes CX X E0) (hr : Room n A) (fr : A.frames = X.A.frames)
    (I : Inv X pins σ H s) (rx : RelV x u) (ry : RelV y v) (hsp : sp [x, y] H R0 E0) (hR : ∀ z w H' s', Inv X pins σ H' s' → RelV z w → R0 z H' → R w s') :
    wpAny (model X.prog X.w) A (call (.ref f) [u, v]) R X.xe s := by
  have e0 : Env0 X.prog X.w X.K X.mg X.base A X.stack s H := by
    have e := I.env0
    exact ⟨by rw [fr]; exact e.frames, e.mod, e.bs, e.bsz, e.funs, e.frf, e.hok, e.bare⟩
  have hl := F.len _ _ _ _ hsp
  have r2 : Vals [x, y] [u, v] := .cons rx (.cons ry .nil)
  refine wpAny_call (codeAny_mono (F.run A X.stack s H ⟨[u, v], []⟩ [u, v] [x, y] _ E0 hr e0 (by
    have := hb s [u, v] I.kIn (by simpa using hl)
    simpa using this) r2 hsp) fun r s' hq => ?_)
  cases r with
  | error e => exact hx pins σ H s e s' I hq
  | ok fl =>
    cases fl with
    | ret w =>
      obtain ⟨z, H', I', rz, q⟩ := I.after hq
      exact hR z w H' s' I' rz q
    | next => exact False.elim hq
    | brk => exact False.elim hq
    | cont => exact False.elim hq
theorem op_eqO (F : FnOk X.prog X.w X.K X.mg X.base CX n f fd ps sp) (hr : Room n X.A) (hs : PySem.W.findIn X.K (.ref C) "__eq__" = some (some (.ref f))) (hf : PySem.W.isFn X.K (.ref f) = true) (hb : Binds X.K fd ps []) (hx : Passes CX X E0) :
    OpR X (compareOp .Eq) (rOwnEq X.K C sp false) := by
  intro pins s σ H x y u v Q I rx ry h
  obtain ⟨a, dx, fs, tb, rfl, ha, ty, hn, hsp⟩ := h
  cases rx
  obtain ⟨mA, J, _⟩ := ins_get I.hok ha
  obtain ⟨od, J, _⟩ := J.look
  obtain ⟨m, hF⟩ := I.fr
  refine PySem.W.cmp_K (op := .Eq) (tb := tb) hr.units0 hF I.ok.mod.kin J (looks_of I ry ty) hn hs hf ?_
  refine run_own (x := .ref a) F hb hx hr rfl I rfl ry hsp fun z w H' s' I' rz q => ?_
  obtain ⟨c, rfl, q⟩ := q
  cases rz
  exact ⟨.bl c, H', I', rfl, q⟩
theorem op_neO (F : FnOk X.prog X.w X.K X.mg X.base CX n f fd ps sp) (hr : Room (n + 1) X.A) (hs : PySem.W.findIn X.K (.ref C) "__eq__" = some (some (.ref f))) (hf : PySem.W.isFn X.K (.ref f) = true) (hb : Binds X.K fd ps []) (hx : Passes CX X E0)
    (hne : PySem.W.findIn X.K (.ref C) "__ne__" = some (some (.builtin "object.__ne__"))) (hm : PySem.W.mroIn X.K C (.type "object") = some true) : OpR X (compareOp .NotEq) (rOwnEq X.K C sp true) := by
  intro pins s σ H x y u v Q I rx ry h
  obtain ⟨a, dx, fs, tb, rfl, ha, ty, hn, hsp⟩ := h
  cases rx
  obtain ⟨mA, J, _⟩ := ins_get I.hok ha
  obtain ⟨od, J, _⟩ := J.look
  refine ne_K (by have := hr.un; omega) I.kIn J (looks_of I ry ty) hn hs hf hne hm ?_
  refine run_own (x := .ref a) F hb hx hr.in1 rfl I rfl ry hsp fun z w H' s' I' rz q => ?_
  obtain ⟨c, rfl, q⟩ := q
  cases rz
  exact ⟨c, rfl, .bl (!c), H', I', rfl, q⟩
end
end L2.My
end
section
set_option Elab.async false
set_option linter.all false
set_option maxRecDepth 100000
set_option maxHeartbeats 4000000
/-! A tree is made, or BadTree is raised. -/
namespace L2.My
open PySem PySem.Spec PyProof.Rows
structure TrC (K : PySem.W.Frag) (C : Addr) : Prop where
  cls : Cls K C
  na : ∀ f ∈ (["height", "leaves", "nodes"] : List Str), NoAttr K C f
def spPart (C : Addr) : Sp := fun vs H Q _ => ∃ a v, vs = [.ref a, v] ∧ H a = some (exo a C none) ∧ ∀ dx H2, H dx = none → dx ≠ a → H2 = upd (upd H dx (exd dx [("part", v)])) a (exo a C (some dx)) → Q .non H2
/-- the facts of BadTree -/
structure BadC (P : Program) (w : World) (K : PySem.W.Frag) (mg : Str → Option Value) (base : Heap) (C : Addr) where
  x : XC K C
  no : PySem.W.findIn K (.ref C) "part" = some none
  fI : Addr
  fd : FuncData
  i : PySem.W.findIn K (.ref C) "__init__" = some (some (.ref fI))
  t : PySem.W.typeIn K (.ref fI) = some (.type "function")
  F : FnOk P w K mg base CX0 1 fI fd ["self", "part"] (spPart C)
  b : Binds K fd ["self", "part"] []
  g : mg "BadTree" = some (.ref C)
  P0 : Addr
  gP : mg "PostError" = some (.ref P0)
  ve : mg "ValueError" = none
  kP : PySem.W.kitOne K (.ref C) (.ref P0) = some true
  kV : PySem.W.kitOne K (.ref C) (.type "ValueError") = some true
  te : PySem.W.exmOne K (.ref C) (.ref C) = some true
theorem bad_of {C : Addr} {H1 : Hp} {v : V} {Q : XK} (h : ∀ H2 d, Same H1 H2 → H1 d = none → H2 d = some (.xd [("part", v)]) → Q (.ref C) (some d) H2) :
    [v].length ≤ 1000 ∧ ∀ a, H1 a = none → spPart C (.ref a :: ([v] ++ [])) (upd H1 a (exo a C none)) (fun u H2 => u = .non ∧ ∃ (d : Addr) (fs : List (Str × V)), H2 a = some (exo a C (some d)) ∧ H2 d = some (exd d fs) ∧ H1 d = none ∧ Q (.ref C) (some d) (upd (del H2 a) d (.xd fs))) (fun _ _ _ => False) := by
  refine ⟨by show 1 ≤ 1000; decide, fun a ha => ⟨a, v, rfl, upd_same, fun dx H2 hdx ne e => ⟨rfl, dx, [("part", v)], ?_, ?_, ?_, ?_⟩⟩⟩
  · rw [e, upd_same]
  · rw [e, upd_ne ne, upd_same]
  · rw [upd_ne ne] at hdx; exact hdx
  · have hd1 : H1 dx = none := by rw [upd_ne ne] at hdx; exact hdx
    refine h _ dx (fun p o hp => ?_) hd1 upd_same
    have n1 : p ≠ dx := fun z => by rw [z, hd1] at hp; cases hp
    have n2 : p ≠ a := fun z => by rw [z, ha] at hp; cases hp
    rw [upd_ne n1]
    show (if p = a then none else H2 p) = some o
    rw [if_neg n2, e, upd_ne n2, upd_ne n1, upd_ne n2]
    exact hp
abbrev sBad : Stmt := mB 0
def spTree (C B : Addr) : Sp := fun vs H Q _ => ∃ b x dx h la xs n, vs = [.ref x, .int (h : Nat), .ref la, n] ∧ H x = some (.ins C dx []) ∧ h ≤ 8 ∧ TF H la xs ∧ (∀ y ∈ xs, Thg b H y) ∧ leavesL H h xs = true ∧ Thg b H n ∧ nodesB H h xs n = true ∧
  ∀ H', BL [x] H H' → H' x = some (.ins C dx [("height", .int (h : Nat)), ("leaves", .ref la), ("nodes", n)]) → Q .non H'
theorem nodesB_bl {b : Addr} {H H' : Hp} {h : Nat} {ls : List V} {v : V} (t : Thg b H v) (s : BL [b] H H') : nodesB H' h ls v = nodesB H h ls v := by
  cases e : tupOf H v with
  | none => rw [nodesB_no e, nodesB_no ((tupOf_bl t s).trans e)]
  | some xs =>
    obtain ⟨a, _, _, _, q⟩ := tupOf_sub t e
    rw [nodesB_at e, nodesB_at ((tupOf_bl t s).trans e)]
    rw [all_congr (p := keptB H' h ls) (q := keptB H h ls) fun x hx => keptB_bl (q x hx) s, List.map_congr_left (f := rowI H') (g := rowI H) fun x hx => rowI_bl (q x hx) s]
section
variable {P : Program} {w : World} {K : PySem.W.Frag} {mg : Str → Option Value} {base : Heap} {C B : Addr}
theorem scBad : FnScope ["self", "part"] ["self", "part"] (defScope sBad) := ⟨rfl, rfl, rfl, by decide +kernel, rfl, by decide +kernel, by decide +kernel⟩
theorem ok_bad {f : Addr} {fd : FuncData} (F : Fun K "__init__" "BadTree.__init__" sBad f fd) (T : OexC K C) (hno : PySem.W.findIn K (.ref C) "part" = some none) : FnOk P w K mg base CX0 1 f fd ["self", "part"] (spPart C) := by
  refine F.ok scBad (fun vs H Q E h => ?_) (fun cdv A outer s H vs Q E hr h => ?_)
  · obtain ⟨a, v, rfl, _⟩ := h
    rfl
  · obtain ⟨a, v, rfl, ha, q⟩ := h
    exact ⟨_, pss_one (ps_ost (pv 0) (pv 1)), ⟨_, rfl, _, rfl, a, C, rfl, T, hno, .inl ⟨ha, fun dx n ne => q dx _ n ne rfl⟩⟩⟩
theorem scTr : FnScope ["self", "height", "leaves", "nodes"] ["self", "height", "leaves", "nodes"] (defScope (mT 0)) := ⟨rfl, rfl, rfl, by decide +kernel, rfl, by decide +kernel, by decide +kernel⟩
theorem ok_tree {f : Addr} {fd : FuncData} {k : Nat} (F : Fun K "__init__" "Tree.__init__" (mT 0) f fd) (T : Tx mg) (c : TrC K C) (N : BadC P w K mg base B) (cB : Cal P w K mg base (k + 4) "is_below" ["bound", "thing"] spBelow) (cL : Cal P w K mg base (k + 4) "is_leaves" ["height", "thing"] spLeav) (cN : Cal P w K mg base (k + 4) "is_nodes" ["height", "leaves", "thing"] spNods) :
    FnOk P w K mg base (CX P w) (k + 5) f fd ["self", "height", "leaves", "nodes"] (spTree C B) := by
  obtain ⟨t1, h1⟩ := T.mh
  refine F.okX scTr (fun vs H Q E h => ?_) (fun cdv A outer s H vs Q E hr h => ?_)
  · obtain ⟨b, x, dx, h, la, xs, n, rfl, _⟩ := h
    rfl
  · obtain ⟨b, x, dx, h, la, xs, n, rfl, hx, h8, hla, hxs, hl, tn, hn, q⟩ := h
    have tk := takes_of (X := cxOf (CX P w) P w K mg base ["self", "height", "leaves", "nodes"] "Tree.__init__" (defScope (mT 0)) f cdv A outer s H E) (E := E) rfl rfl rfl rfl
    refine ⟨_, (pss_cons (ps_if (pt_not (pt_val (pe_c cB hr (by omega) (by rfl) (pa_cons (pe_op op_add (pe_glob (v := .int 8) (by rfl) h1 ⟨_, rfl⟩) pe_int) (pa_cons (pv 1) pa_nil))))) (pss_one (ps_raise rfl tk (pmk_oex N.x.o N.i N.t N.F (hr.mono (by omega)) N.b .nil pass0 (by rfl) N.g (pa_cons pe_str pa_nil)))) pss_nil) (pss_cons (ps_if (pt_not (pt_val (pe_c cL hr (by omega) (by rfl) (pa_cons (pv 1) (pa_cons (pv 2) pa_nil))))) (pss_one (ps_raise rfl tk (pmk_oex N.x.o N.i N.t N.F (hr.mono (by omega)) N.b .nil pass0 (by rfl) N.g (pa_cons pe_str pa_nil)))) pss_nil) (pss_cons (ps_if (pt_not (pt_val (pe_c cN hr (by omega) (by rfl) (pa_cons (pv 1) (pa_cons (pv 2) (pa_cons (pv 3) pa_nil)))))) (pss_one (ps_raise rfl tk (pmk_oex N.x.o N.i N.t N.F (hr.mono (by omega)) N.b .nil pass0 (by rfl) N.g (pa_cons pe_str pa_nil)))) pss_nil) (pss_cons (ps_fld (pv 0) (pv 1) rfl) (pss_cons (ps_fld (pv 0) (pv 2) rfl) (pss_one (ps_fld (pv 0) (pv 3) rfl))))))), ?_⟩
    have th : Thg b H (.int (h : Nat)) := .int _ (Int.le_trans (show ((h : Nat) : Int) ≤ 8 by omega) (by decide))
    have hb : belowV ((8 : Int) + 1) (.int (h : Nat)) = true := decide_eq_true (show (0 : Int) ≤ (h : Nat) ∧ ((h : Nat) : Int) < 8 + 1 by omega)
    refine ⟨_, _, rfl, rfl, _, rfl, b, _, .int (h : Nat), rfl, th, _, rfl, ?_⟩
    rw [hb]
    refine iteF ⟨_, rfl, _, rfl, b, h, la, xs, rfl, h8, hla, hxs, fun H2 s2 => ⟨_, rfl, ?_⟩⟩
    rw [hl]
    refine iteF ⟨_, rfl, _, rfl, _, rfl, b, h, la, xs, n, rfl, h8, hla.same s2, tn.same s2, fun H3 s3 => ⟨_, rfl, ?_⟩⟩
    rw [nodesB_bl tn (.same s2), hn]
    have s23 := s2.trans s3
    have hx3 := s23 _ _ hx
    refine iteF ⟨_, rfl, _, rfl, x, C, dx, _, rfl, hx3, c.cls, c.na _ (by simp), by show 0 < 1000; decide, ?_⟩
    refine ⟨_, rfl, _, rfl, x, C, dx, _, rfl, upd_same, c.cls, c.na _ (by simp), by show 1 < 1000; decide, ?_⟩
    refine ⟨_, rfl, _, rfl, x, C, dx, _, rfl, upd_same, c.cls, c.na _ (by simp), by show 2 < 1000; decide, ?_⟩
    refine q _ (BL.trans (.same s23) (BL.trans (.upd (by simp)) (BL.trans (.upd (by simp)) (.upd (by simp))))) (by rw [upd_same]; rfl)
end
end L2.My
end
section
set_option Elab.async false
set_option linter.all false
set_option maxRecDepth 100000
set_option maxHeartbeats 4000000
/-! Trees as data. -/
namespace L2.My
open PySem PySem.Spec PyProof.Rows
abbrev Lf : Type := Option (Str × Int)
abbrev Nd : Type := (Nat × Nat) × (Int × List Nat)
def nN (l : List Nat) : List V := l.map fun (j : Nat) => V.int j
def LfAt (H : Hp) (v : V) (l : Lf) : Prop := match l with
  | none => v = .non
  | some (z, i) => ∃ a, v = .ref a ∧ H a = some (.tup [.str z, .int i])
def NdAt (H : Hp) (v : V) (n : Nd) : Prop := ∃ a na ca, v = .ref a ∧ H a = some (.tup [.ref na, .int n.2.1, .ref ca]) ∧ H na = some (.tup [.int (n.1.1 : Nat), .int (n.1.2 : Nat)]) ∧ H ca = some (.tup (nN n.2.2))
def LvsAt (H : Hp) (a : Addr) (ls : List Lf) : Prop := ∃ vs, TF H a vs ∧ Paired (LfAt H) vs ls
def NdsAt (H : Hp) (a : Addr) (ns : List Nd) : Prop := ∃ vs, H a = some (.tup vs) ∧ Paired (NdAt H) vs ns
theorem LfAt.tk {H H' : Hp} {v : V} {l : Lf} (h : LfAt H v l) (t : TK H H') : LfAt H' v l := by
  cases l with
  | none => exact h
  | some p =>
    obtain ⟨a, e, h1⟩ := h
    exact ⟨a, e, t.1 _ _ h1⟩
theorem NdAt.tk {H H' : Hp} {v : V} {n : Nd} (h : NdAt H v n) (t : TK H H') : NdAt H' v n := by
  obtain ⟨a, na, ca, e, h1, h2, h3⟩ := h
  exact ⟨a, na, ca, e, t.1 _ _ h1, t.1 _ _ h2, t.1 _ _ h3⟩
theorem LvsAt.tk {H H' : Hp} {a : Addr} {ls : List Lf} (h : LvsAt H a ls) (t : TK H H') : LvsAt H' a ls := by
  obtain ⟨vs, h1, h2⟩ := h
  exact ⟨vs, h1.tk t, Paired.mapP h2 fun _ _ z => z.tk t⟩
theorem NdsAt.tk {H H' : Hp} {a : Addr} {ls : List Nd} (h : NdsAt H a ls) (t : TK H H') : NdsAt H' a ls := by
  obtain ⟨vs, h1, h2⟩ := h
  exact ⟨vs, t.1 _ _ h1, Paired.mapP h2 fun _ _ z => z.tk t⟩
def dLf (l : Lf) : PyData := match l with
  | none => .none
  | some (z, i) => .tuple [.str z, .int i]
def dNats (l : List Nat) : PyData := .tuple (l.map fun (j : Nat) => PyData.int j)
def dNd (n : Nd) : PyData := .tuple [.tuple [.int (n.1.1 : Nat), .int (n.1.2 : Nat)], .int n.2.1, dNats n.2.2]
def dLvs (ls : List Lf) : PyData := .tuple (ls.map dLf)
def dNds (ns : List Nd) : PyData := .tuple (ns.map dNd)
/-! ### they are told by the heap -/
theorem dpNats {K : PySem.W.Frag} {H : Hp} : ∀ l : List Nat, DpAll K H (nN l) (l.map fun (j : Nat) => PyData.int j)
  | [] => .nil
  | j :: r => .cons (.int _) (dpNats r)
theorem dpLf {K : PySem.W.Frag} {H : Hp} {v : V} {l : Lf} (h : LfAt H v l) : Dp K H v (dLf l) := by
  cases l with
  | none => cases h; exact .non
  | some p =>
    obtain ⟨a, rfl, h1⟩ := h
    exact .tup (.of h1) (.cons (.str _) (.cons (.int _) .nil))
theorem dpNd {K : PySem.W.Frag} {H : Hp} {v : V} {n : Nd} (h : NdAt H v n) : Dp K H v (dNd n) := by
  obtain ⟨a, na, ca, rfl, h1, h2, h3⟩ := h
  exact .tup (.of h1) (.cons (.tup (.of h2) (.cons (.int _) (.cons (.int _) .nil))) (.cons (.int _) (.cons (.tup (.of h3) (dpNats _)) .nil)))
theorem dp_map {K : PySem.W.Frag} {H : Hp} {α : Type} {R : V → α → Prop} {f : α → PyData} {vs : List V} {xs : List α} (h : Paired R vs xs) (hr : ∀ v x, R v x → Dp K H v (f x)) : DpAll K H vs (xs.map f) := by
  induction h with
  | nil => exact .nil
  | cons r _ ih => exact .cons (hr _ _ r) ih
theorem dpLvs {K : PySem.W.Frag} {H : Hp} {a : Addr} {ls : List Lf} (h : LvsAt H a ls) : Dp K H (.ref a) (dLvs ls) := by
  obtain ⟨vs, h1, h2⟩ := h
  exact .tup h1.sq (dp_map h2 fun _ _ r => dpLf r)
theorem dpNds {K : PySem.W.Frag} {H : Hp} {a : Addr} {ns : List Nd} (h : NdsAt H a ns) : Dp K H (.ref a) (dNds ns) := by
  obtain ⟨vs, h1, h2⟩ := h
  exact .tup (.of h1) (dp_map h2 fun _ _ r => dpNd r)
/-! ### equal just if they are the same -/
theorem eqv_int (i j : Int) : PyData.eqv (.int i) (.int j) = decide (i = j) := by
  rw [PyData.eqv, Bool.eq_iff_iff, beq_iff_eq, decide_eq_true_iff]
theorem eqv_lf (a b : Lf) : PyData.eqv (dLf a) (dLf b) = decide (a = b) := by
  cases a with
  | none =>
    cases b with
    | none => rfl
    | some p => rfl
  | some p =>
    obtain ⟨z, i⟩ := p
    cases b with
    | none => rfl
    | some q =>
      obtain ⟨y, j⟩ := q
      show PyData.eqv (.tuple [.str z, .int i]) (.tuple [.str y, .int j]) = _
      rw [PyData.eqv, PyData.eqvAll, PyData.eqvAll, PyData.eqvAll, eqv_s, eqv_int, Bool.and_true, ← Bool.decide_and]
      apply decide_eq_decide.mpr
      simp
theorem eqv_nats (a b : List Nat) : PyData.eqv (dNats a) (dNats b) = decide (a = b) := by
  unfold dNats
  rw [PyData.eqv]
  exact eqvAll_map (fun x y => by rw [eqv_int]; apply decide_eq_decide.mpr; omega) a b
theorem eqv_nd (a b : Nd) : PyData.eqv (dNd a) (dNd b) = decide (a = b) := by
  obtain ⟨⟨p, q⟩, i, l⟩ := a
  obtain ⟨⟨p', q'⟩, i', l'⟩ := b
  unfold dNd
  simp only [PyData.eqv, PyData.eqvAll, eqv_nats, eqv_int, Bool.and_true]
  rw [Bool.eq_iff_iff]
  simp only [Bool.and_eq_true, decide_eq_true_eq, beq_iff_eq, Prod.mk.injEq, Int.natCast_inj]
theorem eqv_lvs (a b : List Lf) : PyData.eqv (dLvs a) (dLvs b) = decide (a = b) := by
  unfold dLvs
  rw [PyData.eqv]
  exact eqvAll_map eqv_lf a b
theorem eqv_nds (a b : List Nd) : PyData.eqv (dNds a) (dNds b) = decide (a = b) := by
  unfold dNds
  rw [PyData.eqv]
  exact eqvAll_map eqv_nd a b
/-! ### small enough -/
structure Nice (d : PyData) : Prop where
  ls : d.leavesShort 42 = true
  sh : d.showable = true
  cl : d.canLay0 = true
  hd : d.hasDict = false
structure NiceAll (ds : List PyData) : Prop where
  ls : PyData.leavesShortAll 42 ds = true
  sh : PyData.showableAll ds = true
  cl : PyData.canLayAll0 ds = true
  hd : PyData.hasDictAll ds = false
theorem NiceAll.nil : NiceAll [] := ⟨rfl, rfl, rfl, rfl⟩
theorem NiceAll.cons {d : PyData} {ds : List PyData} (h : Nice d) (k : NiceAll ds) : NiceAll (d :: ds) :=
  ⟨by rw [PyData.leavesShortAll, h.ls, k.ls]; rfl, by rw [PyData.showableAll, h.sh, k.sh]; rfl, by rw [PyData.canLayAll0, h.cl, k.cl]; rfl, by rw [PyData.hasDictAll, h.hd, k.hd]; rfl⟩
theorem NiceAll.map {α : Type} {f : α → PyData} : ∀ {xs : List α}, (∀ x ∈ xs, Nice (f x)) → NiceAll (xs.map f)
  | [], _ => .nil
  | x :: r, h => .cons (h x List.mem_cons_self) (NiceAll.map fun y hy => h y (List.mem_cons_of_mem _ hy))
theorem Nice.tup {ds : List PyData} (h : NiceAll ds) : Nice (.tuple ds) := ⟨by rw [PyData.leavesShort]; exact h.ls, by rw [PyData.showable]; exact h.sh, by rw [PyData.canLay0]; exact h.cl, by rw [PyData.hasDict]; exact h.hd⟩
theorem Nice.lst {ds : List PyData} (h : NiceAll ds) : Nice (.list ds) := ⟨by rw [PyData.leavesShort]; exact h.ls, by rw [PyData.showable]; exact h.sh, by rw [PyData.canLay0]; exact h.cl, by rw [PyData.hasDict]; exact h.hd⟩
theorem Nice.non : Nice .none := ⟨rfl, rfl, rfl, rfl⟩
theorem Nice.boo (b : Bool) : Nice (.bool b) := ⟨rfl, rfl, rfl, rfl⟩
theorem Nice.int {i : Int} (h : i.natAbs ≤ 10 ^ 40) : Nice (.int i) := by
  have h1 : i.natAbs < 10 ^ 41 := Nat.lt_of_le_of_lt h (by decide)
  refine ⟨?_, ?_, rfl, rfl⟩
  · rw [PyData.leavesShort, decide_eq_true_iff]
    show (Str.ofString (toString i)).length ≤ 42
    rw [PySem.ofString_length]
    exact int_text_length_le10 (k := 41) (by decide) h1
  · rw [PyData.showable, decide_eq_true_iff]
    exact Nat.lt_of_lt_of_le (PySem.Flt.log2_lt_of (by decide) (Nat.lt_trans h1 (show 10 ^ 41 < 2 ^ 200 by decide))) (by decide)
theorem Nice.str {z : Str} (h : ∀ c ∈ z.cps.toList, c < 128) : Nice (.str z) := by
  refine ⟨?_, rfl, ?_, rfl⟩
  · rw [PyData.leavesShort, List.all_eq_true]
    intro c hc
    have := h c hc
    rw [decide_eq_true_iff]
    exact Nat.lt_trans this (by decide)
  · rw [PyData.canLay0]
    unfold PyData.strOk
    rw [Array.all_eq_true_iff_forall_mem]
    intro x hx
    have := h x (by simpa using hx)
    rw [decide_eq_true_eq]
    omega
theorem word_low {z : Str} (h : wordB z = true) : z.length ≤ 12 ∧ ∀ c ∈ z.cps.toList, c < 128 := by
  unfold wordB at h
  simp only [Bool.and_eq_true, decide_eq_true_eq, List.all_eq_true] at h
  refine ⟨h.2.1, fun c hc => ?_⟩
  have := h.2.2 c hc
  unfold signB at this
  rw [Bool.and_eq_true, decide_eq_true_eq, decide_eq_true_eq] at this
  omega
/-- a good leaf, a good node -/
def GLf (l : Lf) : Prop := ∀ z i, l = some (z, i) → wordB z = true ∧ 0 ≤ i ∧ i ≤ maxI
def GNd (n : Nd) : Prop := n.1.1 ≤ 8 ∧ 1 ≤ n.1.1 ∧ n.1.2 < 128 ∧ 0 ≤ n.2.1 ∧ n.2.1 ≤ maxI ∧ n.2.2.length ≤ 256 ∧ ∀ j ∈ n.2.2, j < 256
theorem nice_lf {l : Lf} (h : GLf l) : Nice (dLf l) := by
  cases l with
  | none => exact .non
  | some p =>
    obtain ⟨z, i⟩ := p
    obtain ⟨h1, h2, h3⟩ := h z i rfl
    have h3' : i ≤ 10 ^ 40 := h3
    exact .tup (.cons (.str (word_low h1).2) (.cons (.int (by omega)) .nil))
theorem nice_nd {n : Nd} (h : GNd n) : Nice (dNd n) := by
  obtain ⟨h1, h2, h3, h4, h5, _, h6⟩ := h
  have h5' : n.2.1 ≤ 10 ^ 40 := h5
  exact .tup (.cons (.tup (.cons (.int (by omega)) (.cons (.int (by omega)) .nil))) (.cons (.int (by omega)) (.cons (.tup (.map fun j hj => .int (by have := h6 j hj; omega))) .nil)))
theorem bulk_map {α : Type} {f : α → PyData} {c : Nat} : ∀ {xs : List α}, (∀ x ∈ xs, (f x).bulk + 1 ≤ c) → PyData.bulkAll (xs.map f) ≤ c * xs.length
  | [], _ => by simp [PyData.bulkAll]
  | x :: r, h => by
    have h1 := h x List.mem_cons_self
    have h2 := bulk_map (f := f) (c := c) (xs := r) fun y hy => h y (List.mem_cons_of_mem _ hy)
    rw [List.map_cons, PyData.bulkAll, List.length_cons, Nat.mul_add]
    omega
theorem bulk_lf {l : Lf} (h : GLf l) : (dLf l).bulk + 1 ≤ 16 := by
  cases l with
  | none => show 0 + 1 ≤ 16; decide
  | some p =>
    obtain ⟨z, i⟩ := p
    have h1 := (word_low (h z i rfl).1).1
    have e : z.cps.size ≤ 12 := h1
    show PyData.bulk (.tuple [.str z, .int i]) + 1 ≤ 16
    simp only [PyData.bulk, PyData.bulkAll]
    omega
theorem bulk_nd {n : Nd} (h : GNd n) : (dNd n).bulk + 1 ≤ 262 := by
  have h1 := h.2.2.2.2.2.1
  have h2 : PyData.bulkAll (n.2.2.map fun (j : Nat) => PyData.int j) ≤ 1 * n.2.2.length := bulk_map fun j _ => by simp [PyData.bulk]
  unfold dNd dNats
  simp only [PyData.bulk, PyData.bulkAll]
  omega
theorem short_tree {ds : List PyData} {ls : List Lf} {ns : List Nd} (hd : ∀ d ∈ ds, d = .tuple [] → True) (hl : ∀ l ∈ ls, GLf l) (hn : ∀ n ∈ ns, GNd n) (l1 : ls.length ≤ 256) (n1 : ns.length ≤ 1152) : (dLvs ls).bulk + (dNds ns).bulk ≤ 306000 := by
  have h1 : (dLvs ls).bulk ≤ 16 * ls.length := by
    unfold dLvs
    rw [PyData.bulk]
    exact bulk_map fun l hm => bulk_lf (hl l hm)
  have h2 : (dNds ns).bulk ≤ 262 * ns.length := by
    unfold dNds
    rw [PyData.bulk]
    exact bulk_map fun l hm => bulk_nd (hn l hm)
  omega
theorem fits_of {d : PyData} (n : Nice d) (h : d.bulk ≤ 306100) : d.shown.length ≤ sizeLine := by
  have h1 := PyData.shown_le_bulk 42 (by decide) d n.ls
  have h2 : (42 + 2) * d.bulk ≤ 44 * 306100 := Nat.mul_le_mul_left 44 h
  rw [sizeLine_eq]
  omega
end L2.My
end
section
set_option Elab.async false
set_option linter.all false
set_option maxRecDepth 100000
set_option maxHeartbeats 4000000
/-! What passed the judges is a tree; trees as they are drawn pass them. -/
namespace L2.My
open PySem PySem.Spec PyProof.Rows
theorem asc_tail {α : Type} {lt : α → α → Bool} {x : α} {r : List α} (h : ascBy lt (x :: r) = true) : ascBy lt r = true := by
  cases r with
  | nil => rfl
  | cons y r => exact (Bool.and_eq_true_iff.mp (show (lt x y && ascBy lt (y :: r)) = true from h)).2
theorem asc_gt : ∀ {r : List Int} {x : Int}, ascBy ltI (x :: r) = true → ∀ z ∈ r, x < z
  | [], _, _, z, hz => absurd hz (by simp)
  | y :: r, x, h, z, hz => by
    obtain ⟨h1, h2⟩ := Bool.and_eq_true_iff.mp (show (ltI x y && ascBy ltI (y :: r)) = true from h)
    have hxy : x < y := of_decide_eq_true h1
    rcases List.mem_cons.mp hz with e | e
    · rw [e]; exact hxy
    · have := asc_gt h2 z e
      omega
theorem asc_len {N : Int} : ∀ {l : List Int} {lo : Int}, ascBy ltI l = true → (∀ x ∈ l, lo ≤ x ∧ x < N) → lo ≤ N → (l.length : Int) ≤ N - lo
  | [], lo, _, _, h => by simp; omega
  | x :: r, lo, h, hb, _ => by
    have hx := hb x List.mem_cons_self
    have ih := asc_len (l := r) (lo := x + 1) (asc_tail h) (fun z hz => ⟨by have := asc_gt h z hz; omega, (hb z (List.mem_cons_of_mem _ hz)).2⟩) (by omega)
    rw [List.length_cons]
    push_cast
    omega
theorem asc_map {α β : Type} {lt : α → α → Bool} {lt2 : β → β → Bool} {f : α → β} : ∀ {l : List α}, (∀ x ∈ l, ∀ y ∈ l, lt x y = true → lt2 (f x) (f y) = true) → ascBy lt l = true → ascBy lt2 (l.map f) = true
  | [], _, _ => rfl
  | [x], _, _ => rfl
  | x :: y :: r, hf, h => by
    obtain ⟨h1, h2⟩ := Bool.and_eq_true_iff.mp (show (lt x y && ascBy lt (y :: r)) = true from h)
    have ih := asc_map (lt := lt) (lt2 := lt2) (f := f) (l := y :: r) (fun a ha b hb => hf a (List.mem_cons_of_mem _ ha) b (List.mem_cons_of_mem _ hb)) h2
    show (lt2 (f x) (f y) && ascBy lt2 ((y :: r).map f)) = true
    rw [hf x List.mem_cons_self y (List.mem_cons_of_mem _ List.mem_cons_self) h1, ih]
    rfl
def codeI : List Int → Int
  | [a, b] => a * 128 + b
  | _ => 0
theorem code_lt {a b c d : Int} (h1 : 0 ≤ b) (h2 : b < 128) (h3 : 0 ≤ d) (h4 : d < 128) (h : HT.lexLt [a, b] [c, d] = true) : a * 128 + b < c * 128 + d := by
  rw [HT.lexLt_cons] at h
  by_cases e : a = c
  · rw [if_pos e, HT.lexLt_cons] at h
    by_cases e2 : b = d
    · rw [if_pos e2] at h
      exact absurd (show HT.lexLt [] [] = true from h) (by decide)
    · rw [if_neg e2, decide_eq_true_eq] at h
      omega
  · rw [if_neg e, decide_eq_true_eq] at h
    omega
theorem paired_map {α β : Type} {R : α → β → Prop} {f : α → β} : ∀ {xs : List α}, (∀ x ∈ xs, R x (f x)) → Paired R xs (xs.map f)
  | [], _ => .nil
  | x :: r, h => .cons (h x List.mem_cons_self) (paired_map fun y hy => h y (List.mem_cons_of_mem _ hy))
/-- what is told of a good tree -/
structure GTr (hn : Nat) (ls : List Lf) (ns : List Nd) : Prop where
  h8 : hn ≤ 8
  ll : ls.length ≤ 256
  gl : ∀ l ∈ ls, GLf l
  nl : ns.length ≤ 1152
  gn : ∀ n ∈ ns, GNd n
end L2.My
end
section
set_option Elab.async false
set_option linter.all false
set_option maxRecDepth 100000
set_option maxHeartbeats 4000000
/-! Expressions that make things, as k50 has them; over the box. -/
namespace L2.My
open PySem PySem.Spec PyProof.Rows
def NoTup (H : Hp) (b : Addr) : Prop := ∀ xs, H b ≠ some (.tup xs)
theorem NoTup.ne {H : Hp} {a b : Addr} {xs : List V} (h : NoTup H b) (e : H a = some (.tup xs)) : a ≠ b := fun z => h xs (z ▸ e)
theorem BoxAt.nt {H : Hp} {b g : Addr} (h : BoxAt H b g) : NoTup H b := fun xs e => by
  obtain ⟨_, _, _, _, _, _, h1, _⟩ := h
  rw [h1] at e; cases e
def Stb (b : Addr) (P : Hp → Prop) : Prop := ∀ H H', P H → BL [b] H H' → P H'
def GT (b g : Addr) (P : Hp → Prop) (σ : St) (te : TE) : Prop := ∀ H (Q : VK), BoxAt H b g → P H → (∀ H' v, BL [b] H H' → BoxAt H' b g → Thg b H' v → Q v H') → te σ H Q
def GA (b g : Addr) (P : Hp → Prop) (σ : St) (n : Nat) (ta : TA) : Prop := ∀ H (Q : List V → Hp → Prop), BoxAt H b g → P H → (∀ H' vs, BL [b] H H' → BoxAt H' b g → (∀ v ∈ vs, Thg b H' v) → vs.length = n → Q vs H') → ta σ H Q
/-- a new list of things -/
def GL (b g : Addr) (P : Hp → Prop) (σ : St) (n : Nat) (te : TE) : Prop := ∀ H (Q : VK), BoxAt H b g → P H → (∀ H' l vs, BL [b] H H' → BoxAt H' b g → H l = none → H' l = some (.lst vs) → (∀ v ∈ vs, Thg b H' v) → vs.length = n → Q (.ref l) H') → te σ H Q
section
variable {b g : Addr} {P : Hp → Prop} {σ : St}
theorem ga_nil : GA b g P σ 0 tNil := fun H Q hB _ q => q H [] .refl hB (by simp) rfl
theorem ga_cons {n : Nat} {te : TE} {ta : TA} (st : Stb b P) (h1 : GT b g P σ te) (h2 : GA b g P σ n ta) : GA b g P σ (n + 1) (tCons te ta) := fun H Q hB p q =>
  h1 H _ hB p fun H1 v bl1 hB1 t1 => h2 H1 _ hB1 (st _ _ p bl1) fun H2 vs bl2 hB2 t2 hl => q H2 (v :: vs) (bl1.trans bl2) hB2 (fun u hu => by
    rcases List.mem_cons.mp hu with z | z
    · rw [z]; exact t1.bl bl2
    · exact t2 u z) (by rw [List.length_cons, hl])
theorem gt_tup {n : Nat} {ta : TA} (hn : n ≤ 1000) (h : GA b g P σ n ta) : GT b g P σ (tTup ta) := fun H Q hB p q =>
  h H _ hB p fun H1 vs bl1 hB1 t1 hl => ⟨Nat.le_trans (show vs.length ≤ 1000 by omega) (by decide), fun a na => by
    have s := same_upd (o := HO.tup vs) na
    exact q _ _ (bl1.trans (.same s)) (hB1.same s) (.tup upd_same (hB1.nb na) (by omega) fun v hv => (t1 v hv).same s)⟩
theorem gl_lst {n : Nat} {ta : TA} (hn : n ≤ 1000) (h : GA b g P σ n ta) : GL b g P σ n (tLst ta) := fun H Q hB p q =>
  h H _ hB p fun H1 vs bl1 hB1 t1 hl => ⟨Nat.le_trans (show vs.length ≤ 1000 by omega) (by decide), fun a na => by
    have s := same_upd (o := HO.lst vs) na
    exact q _ a vs (bl1.trans (.same s)) (hB1.same s) (bl1.nw na (by simpa using hB1.nb na)) upd_same (fun v hv => (t1 v hv).same s) hl⟩
theorem gl_gt {n : Nat} {te : TE} (h : GL b g P σ n te) : GT b g P σ te := fun H Q hB p q => h H Q hB p fun H1 l vs bl hB1 nl hl _ _ => q H1 _ bl hB1 (.lst hl (hB.nb nl))
theorem gt_lst {n : Nat} {ta : TA} (hn : n ≤ 1000) (h : GA b g P σ n ta) : GT b g P σ (tLst ta) := gl_gt (gl_lst hn h)
theorem gt_int (i : Int) (h : i ≤ maxI) : GT b g P σ (tC (.int i)) := fun H Q hB _ q => q H _ .refl hB (.int i h)
theorem gt_non : GT b g P σ (tC .non) := fun H Q hB _ q => q H _ .refl hB .non
theorem gt_bl (i : Bool) : GT b g P σ (tC (.bl i)) := fun H Q hB _ q => q H _ .refl hB (.boo i)
theorem gt_str (z : Str) (h : z.length ≤ 5000) : GT b g P σ (tC (.str z)) := fun H Q hB _ q => q H _ .refl hB (.str z h)
theorem gt_var {i : Nat} {v : V} (e : σ[i]? = some (some v)) (h : ∀ H, P H → Thg b H v) : GT b g P σ (tVar i) := fun H Q hB p q => ⟨v, e, q H _ .refl hB (h H p)⟩
end
section
variable {b g : Addr} {P : Hp → Prop} {σ : St}
theorem gt_dct : GT b g P σ tDNewK := fun H Q hB _ q p np => by
  have s := same_upd (o := HO.dK []) np
  exact q _ _ (.same s) (hB.same s) (.dct upd_same (hB.nb np))
theorem gt_neg : GT b g P σ (tUn (rU fun i => .int (-i)) (tC (.int 1))) := fun H Q hB _ q => ⟨_, rfl, q H _ .refl hB (.int _ (by decide))⟩
def GB (b g : Addr) (P : Hp → Prop) (σ : St) (n : Nat) (ta : TA) : Prop := ∀ H (Q : List V → Hp → Prop), BoxAt H b g → P H → (∀ H' vs, BL [b] H H' → BoxAt H' b g → (∀ v ∈ vs, Thg b H' v) → vs.length ≤ n → Q vs H') → ta σ H Q
theorem gb_nil {n : Nat} : GB b g P σ n tNil := fun H Q hB _ q => q H [] .refl hB (by simp) (Nat.zero_le _)
theorem gb_cons {n : Nat} {te : TE} {ta : TA} (st : Stb b P) (h1 : GT b g P σ te) (h2 : GB b g P σ n ta) : GB b g P σ (n + 1) (tCons te ta) := fun H Q hB p q =>
  h1 H _ hB p fun H1 v bl1 hB1 t1 => h2 H1 _ hB1 (st _ _ p bl1) fun H2 vs bl2 hB2 t2 hl => q H2 (v :: vs) (bl1.trans bl2) hB2 (fun u hu => by
    rcases List.mem_cons.mp hu with z | z
    · rw [z]; exact t1.bl bl2
    · exact t2 u z) (by rw [List.length_cons]; omega)
theorem gt_tupB {ta : TA} (h : GB b g P σ 900 ta) : GT b g P σ (tTup ta) := fun H Q hB p q =>
  h H _ hB p fun H1 vs bl1 hB1 t1 hl => ⟨Nat.le_trans (show vs.length ≤ 1000 by omega) (by decide), fun a na => by
    have s := same_upd (o := HO.tup vs) na
    exact q _ _ (bl1.trans (.same s)) (hB1.same s) (.tup upd_same (hB1.nb na) (by omega) fun v hv => (t1 v hv).same s)⟩
theorem gt_lstB {ta : TA} (h : GB b g P σ 900 ta) : GT b g P σ (tLst ta) := fun H Q hB p q =>
  h H _ hB p fun H1 vs bl1 hB1 t1 hl => ⟨Nat.le_trans (show vs.length ≤ 1000 by omega) (by decide), fun a na => by
    have s := same_upd (o := HO.lst vs) na
    exact q _ _ (bl1.trans (.same s)) (hB1.same s) (.lst upd_same (hB1.nb na))⟩
theorem gl_lst' {n : Nat} {ta : TA} (h : GA b g P σ n ta) (hn : n ≤ 1000) : GL b g P σ n (tLst ta) := gl_lst hn h
theorem tt (b : Addr) : Stb b fun _ => True := fun _ _ _ _ => trivial
end
theorem Thg.put {b l : Addr} {H : Hp} {v : V} {xs ys : List V} (h : Thg b H v) (hl : H l = some (.lst xs)) : Thg b (upd H l (.lst ys)) v := by
  have th : ∀ {v : V} {t : String}, ThT H v t → ThT (upd H l (.lst ys)) v t := fun {v t} h => by
    cases h with
    | non => exact .non
    | bl c => exact .bl c
    | int i => exact .int i
    | str x => exact .str x
    | @lst a zs h =>
      by_cases e : a = l
      · subst e; exact .lst upd_same
      · exact .lst (by rw [upd_ne e]; exact h)
    | @tup a zs h =>
      have e : a ≠ l := fun z => by rw [z, hl] at h; cases h
      exact .tup (by rw [upd_ne e]; exact h)
    | @dct a zs h =>
      have e : a ≠ l := fun z => by rw [z, hl] at h; cases h
      exact .dct (by rw [upd_ne e]; exact h)
  have s0 : ∀ {v : V}, Sh0 b H v → Sh0 b (upd H l (.lst ys)) v := fun {v} ⟨⟨t, h1⟩, h2⟩ => ⟨⟨t, th h1⟩, h2⟩
  intro n
  have := h n
  clear h
  induction n generalizing v with
  | zero => exact s0 this
  | succ n ih =>
    refine ⟨s0 this.1, fun a zs e ea => ?_⟩
    have ne : a ≠ l := fun z => by rw [z, upd_same] at ea; cases ea
    rw [upd_ne ne] at ea
    obtain ⟨q1, q2⟩ := this.2 a zs e ea
    exact ⟨q1, fun x hx => ih (q2 x hx)⟩
/-- an expression that makes a tuple of things -/
def GU (b g : Addr) (P : Hp → Prop) (σ : St) (n : Nat) (te : TE) : Prop := ∀ H (Q : VK), BoxAt H b g → P H → (∀ H' a vs, BL [b] H H' → BoxAt H' b g → H' a = some (.tup vs) → (∀ v ∈ vs, Thg b H' v) → vs.length ≤ n → Q (.ref a) H') → te σ H Q
section
variable {K : PySem.W.Frag} {b g : Addr} {P : Hp → Prop} {σ : St}
theorem gu_gt {n : Nat} {te : TE} (h : GU b g P σ n te) (hn : n ≤ 5000) : GT b g P σ te := fun H Q hB p q => h H _ hB p fun H1 a vs bl hB1 ha ht hl => q H1 _ bl hB1 (.tup ha (hB1.nt.ne ha) (by omega) ht)
theorem gu_mono {n m : Nat} {te : TE} (h : GU b g P σ n te) (hn : n ≤ m) : GU b g P σ m te := fun H Q hB p q => h H _ hB p fun H1 a vs bl hB1 ha ht hl => q H1 a vs bl hB1 ha ht (by omega)
theorem gu_var {i n : Nat} {a : Addr} {vs : List V} (e : σ[i]? = some (some (.ref a))) (h : ∀ H, P H → H a = some (.tup vs) ∧ ∀ v ∈ vs, Thg b H v) (hn : vs.length ≤ n) : GU b g P σ n (tVar i) := fun H Q hB p q => ⟨_, e, q H a vs .refl hB (h H p).1 (h H p).2 hn⟩
theorem gu_tup1 {te : TE} (h : GT b g P σ te) : GU b g P σ 1 (tTup (tCons te tNil)) := fun H Q hB p q => h H _ hB p fun H1 v bl hB1 tv => ⟨by show 1 ≤ sizeLine; decide, fun a na => by
  have s := same_upd (o := HO.tup [v]) na
  exact q _ a [v] (bl.trans (.same s)) (hB1.same s) upd_same (fun x hx => by rw [List.mem_singleton.mp hx]; exact tv.same s) (Nat.le_refl 1)⟩
theorem gu_cat {n m : Nat} {t1 t2 : TE} (st : Stb b P) (h1 : GU b g P σ n t1) (h2 : GU b g P σ m t2) (hnm : n + m ≤ 100000) : GU b g P σ (n + m) (tOp (rCatA K) t1 t2) := fun H Q hB p q =>
  h1 H _ hB p fun H1 a vs bl1 hB1 ha tv hl => h2 H1 _ hB1 (st _ _ p bl1) fun H2 c ws bl2 hB2 hc tw hm => by
    have ha2 := bl2 _ _ (by simpa using hB1.nt.ne ha) ha
    have tv2 : ∀ v ∈ vs, Thg b H2 v := fun v hv => (tv v hv).bl bl2
    refine ⟨a, c, vs, ws, rfl, rfl, .of ha2, .of hc, Nat.le_trans (show vs.length + ws.length ≤ 100000 by omega) (by decide), fun _ => q _ c ws (bl1.trans bl2) hB2 hc tw (by omega), fun _ _ => q _ a vs (bl1.trans bl2) hB2 ha2 tv2 (by omega), fun _ _ x nx => ?_⟩
    have s := same_upd (o := HO.tup (vs ++ ws)) nx
    refine q _ x (vs ++ ws) ((bl1.trans bl2).trans (.same s)) (hB2.same s) upd_same (fun v hv => ?_) (by rw [List.length_append]; omega)
    rcases List.mem_append.mp hv with z | z
    · exact (tv2 v z).same s
    · exact (tw v z).same s
theorem cut_mem {xs : List V} {lo hi : Option Int} {v : V} (h : v ∈ cutV xs lo hi) : v ∈ xs := List.mem_of_mem_drop (List.mem_of_mem_take h)
theorem cut_len {xs : List V} {lo hi : Option Int} : (cutV xs lo hi).length ≤ xs.length := by
  unfold cutV
  rw [List.length_take, List.length_drop]
  omega
theorem gu_slc {n : Nat} {te : TE} {lo hi : Option Int} (h : GU b g P σ n te) {tl th : TO} (hl : ∀ H (Q : Option Int → Hp → Prop), Q lo H → tl σ H Q) (hh : ∀ H (Q : Option Int → Hp → Prop), Q hi H → th σ H Q) : GU b g P σ n (tSl (rSlA K) te tl th) := fun H Q hB p q =>
  h H _ hB p fun H1 a vs bl1 hB1 ha tv hlen => hl _ _ (hh _ _ ⟨a, vs, rfl, .of ha, fun _ => q _ a vs bl1 hB1 ha tv hlen, fun _ x nx => by
    have s := same_upd (o := HO.tup (cutV vs lo hi)) nx
    exact q _ x _ (bl1.trans (.same s)) (hB1.same s) upd_same (fun v hv => (tv v (cut_mem hv)).same s) (Nat.le_trans cut_len hlen)⟩)
theorem to_no (H : Hp) (Q : Option Int → Hp → Prop) (q : Q none H) : tNoPart σ H Q := q
theorem to_var {i : Nat} {n : Int} (e : σ[i]? = some (some (.int n))) (H : Hp) (Q : Option Int → Hp → Prop) (q : Q (some n) H) : tPart (tVar i) σ H Q := ⟨_, e, n, rfl, q⟩
theorem gu_ix {i n : Nat} {j : Int} {p0 a : Addr} {xs vs : List V} (e : σ[i]? = some (some (.ref p0))) (h : ∀ H, P H → H p0 = some (.tup xs) ∧ H a = some (.tup vs) ∧ ∀ v ∈ vs, Thg b H v) (hj : atI xs j = some (.ref a)) (hn : vs.length ≤ n) : GU b g P σ n (tOp (rIxT K) (tVar i) (tC (.int j))) := fun H Q hB p q =>
  ⟨_, e, p0, xs, j, _, rfl, rfl, .of (h H p).1, hj, q H a vs .refl hB (h H p).2.1 (h H p).2.2 hn⟩
theorem gu_ixl {i k n : Nat} {j : Int} {p0 a : Addr} {xs vs : List V} (e : σ[i]? = some (some (.ref p0))) (ek : σ[k]? = some (some (.int j))) (h : ∀ H, P H → H p0 = some (.lst xs) ∧ H a = some (.tup vs) ∧ ∀ v ∈ vs, Thg b H v) (hj : atI xs j = some (.ref a)) (hn : vs.length ≤ n) : GU b g P σ n (tOp (rIxL K) (tVar i) (tVar k)) := fun H Q hB p q =>
  ⟨_, e, _, ek, p0, xs, j, _, rfl, rfl, .of (h H p).1, hj, q H a vs .refl hB (h H p).2.1 (h H p).2.2 hn⟩
theorem gt_listof {n : Nat} {te : TE} (h : GU b g P σ n te) : GT b g P σ (tCB (fun xs H Q => ∃ p ys, xs = [V.ref p] ∧ (SqL K H p ys ∨ SqT K H p ys) ∧ ∀ l, H l = none → Q (V.ref l) (upd H l (HO.lst ys))) (tCons te tNil)) := fun H Q hB p q =>
  h H _ hB p fun H1 a vs bl hB1 ha tv hl => ⟨a, vs, rfl, .inr (.of ha), fun l nl => by
    have s := same_upd (o := HO.lst vs) nl
    exact q _ _ (bl.trans (.same s)) (hB1.same s) (.lst upd_same (hB1.nb nl))⟩
end
theorem stb_bl (b : Addr) (H0 : Hp) : Stb b fun G => BL [b] H0 G := fun _ _ h s => h.trans s
theorem ixN_nat {n j : Nat} (h : j < n) : ixN n (j : Int) = some j := by
  unfold ixN
  rw [if_pos (by omega), if_pos (by omega)]
  simp
end L2.My
end
section
set_option Elab.async false
set_option linter.all false
set_option maxRecDepth 100000
set_option maxHeartbeats 4000000
/-! The law's small ones: name, lock, beneath, int, named, odd, set. -/
namespace L2.My
open PySem PySem.Spec PyProof.Rows
open TL (joinL tl_join tl join_eq)
abbrev sName : Stmt := top 36
abbrev sLock : Stmt := top 37
abbrev sBen : Stmt := top 38
theorem join_all : ∀ (ys : List Str), (∀ y ∈ ys, y.length = 1 ∧ y.cps.toList.all signB = true) → (Txt.join "" ys).length = ys.length ∧ (Txt.join "" ys).cps.toList.all signB = true := fun ys h => by
  have e : (Txt.join "" ys).cps.toList = joinL (tl "") (ys.map tl) := by
    rw [join_eq]
    exact tl_join "" ys
  have e2 : tl "" = [] := rfl
  have key : ∀ (zs : List Str), (∀ y ∈ zs, y.length = 1 ∧ y.cps.toList.all signB = true) → (joinL [] (zs.map tl)).length = zs.length ∧ (joinL [] (zs.map tl)).all signB = true := by
    intro zs
    induction zs with
    | nil => intro _; exact ⟨rfl, rfl⟩
    | cons x r ih =>
      intro h
      obtain ⟨h1, h2⟩ := h x List.mem_cons_self
      obtain ⟨i1, i2⟩ := ih fun y hy => h y (List.mem_cons_of_mem _ hy)
      have hx : (tl x).length = 1 := by
        have : x.cps.toList.length = 1 := by rw [Array.length_toList]; exact h1
        exact this
      cases r with
      | nil => exact ⟨hx, h2⟩
      | cons y r =>
        show (tl x ++ ([] ++ joinL [] ((y :: r).map tl))).length = _ ∧ (tl x ++ ([] ++ joinL [] ((y :: r).map tl))).all signB = true
        rw [List.nil_append, List.length_append, List.all_append, i1, i2, hx, Bool.and_true]
        exact ⟨by simp only [List.length_cons]; omega, h2⟩
  obtain ⟨k1, k2⟩ := key ys h
  rw [e2] at e
  refine ⟨?_, by rw [e]; exact k2⟩
  have : (Txt.join "" ys).cps.toList.length = ys.length := by rw [e]; exact k1
  rw [Array.length_toList] at this
  exact this
def betw (lo hi : Int) : V → Bool
  | .int i => decide (lo ≤ i ∧ i ≤ hi)
  | _ => false
def spName : Sp := fun vs H Q _ => ∃ (b g : Addr), vs = [.ref b] ∧ BoxAt H b g ∧ ∀ H' z, BL [b] H H' → BoxAt H' b g → wordB z = true → Q (.str z) H'
def spLock : Sp := fun vs H Q _ => ∃ (b g : Addr), vs = [.ref b] ∧ BoxAt H b g ∧ ∀ H' r, BL [b] H H' → BoxAt H' b g → 0 ≤ r → r ≤ maxI → Q (.int r) H'
def benL (lev idx : Nat) : List Nat := (List.range (2 ^ lev)).map fun k => idx * 2 ^ lev + k
def spBen : Sp := fun vs H Q _ => ∃ (a : Addr) (lev idx : Nat), vs = [.ref a] ∧ H a = some (.tup [.int (lev : Nat), .int (idx : Nat)]) ∧ lev ≤ 8 ∧ idx ≤ 1000 ∧ ∀ H' l, Same H H' → H l = none → H' l = some (.lst (nN (benL lev idx))) → Q (.ref l) H'
def spLint : Sp := fun vs H Q _ => ∃ (b : Addr) (v : V) (lo hi : Int), vs = [v, .int lo, .int hi] ∧ Thg b H v ∧ Q (.bl (betw lo hi v)) H
def spOdd : Sp := fun vs H Q _ => ∃ (b g : Addr), vs = [.ref b] ∧ BoxAt H b g ∧ ∀ H' v, BL [b] H H' → BoxAt H' b g → Thg b H' v → Q v H'
def spSet : Sp := fun vs H Q _ => ∃ (a : Addr) (xs : List V) (n : Nat) (v : V), vs = [.ref a, .int (n : Nat), v] ∧ H a = some (.tup xs) ∧ n < xs.length ∧ xs.length ≤ 5000 ∧ ∀ H' c, Same H H' → H' c = some (.tup (xs.set n v)) → Q (.ref c) H'
theorem betw_cases {H : Hp} {v : V} {t : String} {lo hi : Int} (h : ThT H v t) : (∃ i, v = .int i ∧ t = "int") ∨ (∃ c, v = .bl c ∧ t = "bool") ∨ (betw lo hi v = false ∧ instT t "int" = false) := by
  cases h with
  | int i => exact .inl ⟨i, rfl, rfl⟩
  | bl c => exact .inr (.inl ⟨c, rfl, rfl⟩)
  | _ => exact .inr (.inr ⟨rfl, by decide⟩)
theorem catA_ref {K : PySem.W.Frag} {H : Hp} {a b : Addr} {xs ys : List V} {Q : VK} (ha : H a = some (.tup xs)) (hb : H b = some (.tup ys)) (hl : xs.length + ys.length ≤ sizeLine) (h : ∀ c G, Same H G → G c = some (.tup (xs ++ ys)) → Q (.ref c) G) : rCatA K (.ref a) (.ref b) H Q :=
  ⟨a, b, xs, ys, rfl, rfl, .of ha, .of hb, hl, fun e => h b H (Same.refl _) (by rw [e]; exact hb), fun _ e => h a H (Same.refl _) (by rw [e, List.append_nil]; exact ha), fun _ _ x nx => h x _ (same_upd nx) upd_same⟩
theorem slc_ref {K : PySem.W.Frag} {H : Hp} {a : Addr} {xs : List V} {lo hi : Option Int} {Q : VK} (ha : H a = some (.tup xs)) (h : ∀ c G, Same H G → G c = some (.tup (cutV xs lo hi)) → Q (.ref c) G) : rSlA K (.ref a) lo hi H Q := by
  refine ⟨a, xs, rfl, .of ha, fun w => h a H (Same.refl _) ?_, fun _ x nx => h x _ (same_upd nx) upd_same⟩
  rw [ha]
  unfold cutV
  rw [w.1, w.2, List.drop_zero, Nat.sub_zero, List.take_length]
/-- a comprehension whose calls touch the box alone -/
theorem lcB {J : It} {n : Nat} {G : Hp → Prop} {Y : Nat → Hp → V → Hp → Prop} {b gg D : Addr} {H1 : Hp} {Qd : Hp → Prop} {σ : St} {g : TG} {tt : TT} {te : TE} {vs : List Nat} (w : Walk J n G Y) (R : Nat → List V → Prop) (hn : n < sizeLine) (hD : H1 D = none) (hB : BoxAt H1 b gg)
    (hG : ∀ H', BL [b] H1 H' → BoxAt H' b gg → G H') (h0 : R 0 [])
    (hs : ∀ i x H H' (Q' : VK) (N' : Hp → Prop) acc, i < n → BL [b] H1 H → BoxAt H b gg → R i acc → Y i H x H' → (∀ v H4, BL [b] H H4 → BoxAt H4 b gg → R (i + 1) (acc ++ [v]) → Q' v H4) → (R (i + 1) acc → ∀ H4, BL [b] H H4 → BoxAt H4 b gg → N' H4) →
      g x (wipe σ vs) H' fun σ2 H2 => wipe σ2 vs = wipe σ vs ∧ tt σ2 H2 fun c H3 => if c = true then te σ2 H3 Q' else N' H3)
    (hd : ∀ H acc, BL [b] H1 H → BoxAt H b gg → H D = some (.lst acc) → R n acc → acc.length ≤ n → Qd H) : CompOut J g tt te vs σ D Qd H1 := by
  have nb := hB.nb hD
  have ng := hB.ng hD
  refine lc_it w (fun i H => BL [b] H1 H ∧ BoxAt H b gg ∧ ∃ acc, H D = some (.lst acc) ∧ R i acc ∧ acc.length ≤ i) ⟨.same (same_upd hD), hB.same (same_upd hD), [], upd_same, h0, Nat.le_refl _⟩ (fun i H _ h => hG H h.1 h.2.1) ?_ (fun H ⟨h1, h2, acc, h3, h4, h5⟩ => hd H acc h1 h2 h3 h4 h5)
  rintro i x H H' hi ⟨bl, hb, acc, hacc, hR, hlen⟩ y
  refine hs i x H H' _ _ acc hi bl hb hR y (fun v H4 bl4 hb4 hR4 => ?_) (fun hR4 H4 bl4 hb4 => ⟨bl.trans bl4, hb4, acc, bl4 _ _ (by simpa using nb) hacc, hR4, by omega⟩)
  exact ⟨acc, bl4 _ _ (by simpa using nb) hacc, by omega, BL.put (bl.trans bl4) hD, hb4.put nb ng, acc ++ [v], upd_same, hR4, by rw [List.length_append, List.length_singleton]; omega⟩
theorem sum_ones : ∀ ys : List Str, (∀ y ∈ ys, y.length = 1) → (ys.map (·.length)).sum = ys.length
  | [], _ => rfl
  | y :: r, h => by
    rw [List.map_cons, List.sum_cons, h y List.mem_cons_self, sum_ones r fun z hz => h z (List.mem_cons_of_mem _ hz), List.length_cons, Nat.add_comm]
theorem letters : ("abcdefghijklmnopqrstuvwxyz" : Str).cps.toList = [97, 98, 99, 100, 101, 102, 103, 104, 105, 106, 107, 108, 109, 110, 111, 112, 113, 114, 115, 116, 117, 118, 119, 120, 121, 122] := by decide +kernel
theorem in_letters (c : Nat) : decide (c ∈ ("abcdefghijklmnopqrstuvwxyz" : Str).cps.toList) = signB c := by
  rw [letters]
  unfold signB
  rw [← Bool.decide_and]
  refine decide_eq_decide.mpr ?_
  simp only [List.mem_cons, List.not_mem_nil, or_false]
  omega
theorem letter_at {r : Int} (h0 : 0 ≤ r) (h1 : r < 26) : ∃ c, atI ("abcdefghijklmnopqrstuvwxyz" : Str).cps.toList r = some c ∧ signB c = true := by
  rw [letters]
  obtain ⟨j, rfl⟩ : ∃ j : Nat, r = j := ⟨r.toNat, by omega⟩
  have hj : j < 26 := by omega
  refine ⟨97 + j, ?_, ?_⟩
  · have : ∀ j : Fin 26, atI ([97, 98, 99, 100, 101, 102, 103, 104, 105, 106, 107, 108, 109, 110, 111, 112, 113, 114, 115, 116, 117, 118, 119, 120, 121, 122] : List Nat) ((j.1 : Nat) : Int) = some (97 + j.1) := by decide +kernel
    exact this ⟨j, hj⟩
  · unfold signB
    rw [decide_eq_true (by omega), decide_eq_true (by omega)]
    rfl
section
variable {P : Program} {w : World} {K : PySem.W.Frag} {mg : Str → Option Value} {base : Heap}
theorem scName : FnScope ["box", "many", "k"] ["box"] (defScope sName) := ⟨rfl, rfl, rfl, by decide +kernel, rfl, by decide +kernel, by decide +kernel⟩
theorem ok_name {f : Addr} {fd : FuncData} {k : Nat} (F : Fun K "_law_name" "_law_name" sName f fd) (T : Tx mg) (cD : Cal P w K mg base (k + 3) "_law_draw" ["box", "menu"] spDraw) : FnOk P w K mg base CX0 (k + 4) f fd ["box"] spName := by
  refine F.ok scName (fun vs H Q E h => ?_) (fun cdv A outer s H vs Q E hr h => ?_)
  · obtain ⟨b, g, rfl, _⟩ := h
    rfl
  · obtain ⟨b, g, rfl, hB, q⟩ := h
    refine ⟨_, (pss_cons (ps_set (i := 1) scName.nd rfl (Or.inl rfl) (pe_ifExp (pt_cmpR op_eq (pe_c cD hr (by omega) (by rfl) (pa_cons (pv 0) (pa_cons pe_int pa_nil))) pe_int (nomark _)) (pe_op op_add pe_int (pe_c cD hr (by omega) (by rfl) (pa_cons (pv 0) (pa_cons pe_int pa_nil)))) pe_int)) (pss_one (ps_ret (pe_join pe_str (pe_lc (own := [("k", 2)]) (g := gName 2) (te := tOp rIxS (tC (.str "abcdefghijklmnopqrstuvwxyz")) (tCall spDraw [] E0 (tCons (tVar 0) (tCons (tC (.int 26)) tNil)))) rfl scName.nd (pi_range1 (by rfl) T.range_ (pa_cons (pv 1) pa_nil)) (blkOk_by (N := ["box", "many", "k"]) (sc := defScope sName) (by decide +kernel)) (fun _ _ _ _ _ => pg_name (i := 2) scName.nd rfl (Or.inl rfl)) (fun _ _ _ _ _ => pts_nil) (fun _ _ _ _ _ => (pe_ix ix_str pe_str (pe_c cD hr (by omega) (by rfl) (pa_cons (pv 0) (pa_cons pe_int pa_nil))) (fun _ _ => rfl)))))))), ?_⟩
    refine seq_use (fun σ G => ∃ m : Int, σ = [some (.ref b), some (.int m), none] ∧ BL [b] H G ∧ BoxAt G b g ∧ 1 ≤ m ∧ m ≤ 12) ?_ (fun hrest => ?_)
    · rintro σ G ⟨m, rfl, bl, hBG, m1, m2⟩
      refine ⟨⟨"", rfl⟩, _, rfl, m, rfl, by omega, by omega, fun D nD => ?_⟩
      refine lcB (walk_range (lo := 0)) (fun i acc => ∃ ys : List Str, acc = ys.map V.str ∧ ys.length = i ∧ ∀ y ∈ ys, y.length = 1 ∧ y.cps.toList.all signB = true) (Nat.lt_of_le_of_lt (show m.toNat ≤ 12 by omega) (by decide)) nD hBG (fun _ _ _ => trivial) ⟨[], rfl, rfl, by simp⟩ ?_ ?_
      · rintro i x G1 G2 Q' N' acc hi bl1 hB1 ⟨ys, rfl, hlen, hys⟩ ⟨rfl, rfl⟩ hq _
        refine ⟨rfl, ?_⟩
        show tOp rIxS (tC (.str "abcdefghijklmnopqrstuvwxyz")) (tCall spDraw [] E0 (tCons (tVar 0) (tCons (tC (.int 26)) tNil))) _ _ _
        refine ⟨_, rfl, b, g, 26, rfl, hB1, by decide, by decide, fun G3 r bl3 hB3 r0 r1 => ?_⟩
        obtain ⟨c, hc, hs⟩ := letter_at r0 r1
        refine ⟨_, r, c, rfl, rfl, by decide +kernel, hc, hq _ G3 bl3 hB3 ⟨ys ++ [⟨#[c]⟩], by rw [List.map_append]; rfl, by rw [List.length_append, hlen]; rfl, fun y hy => ?_⟩⟩
        rcases List.mem_append.mp hy with z | z
        · exact hys y z
        · rw [List.mem_singleton.mp z]
          exact ⟨rfl, by show (signB c && true) = true; rw [hs]; rfl⟩
      · rintro G3 acc bl3 hB3 hD3 ⟨ys, rfl, hlen, hys⟩ _
        obtain ⟨j1, j2⟩ := join_all ys hys
        refine ⟨"", D, ys, rfl, rfl, .inl (.of hD3), ?_, q G3 _ (bl.trans bl3) hB3 ?_⟩
        · have e2 : ("" : Str).length = 0 := rfl
          rw [sum_ones ys fun y hy => (hys y hy).1, e2, Nat.mul_zero]
          omega
        · unfold wordB
          rw [j1, j2, decide_eq_true (by omega), decide_eq_true (by omega)]
          rfl
    · refine ⟨_, rfl, b, g, 3, rfl, hB, by decide, by decide, fun G1 r bl1 hB1 r0 r1 => ⟨rfl, _, rfl, ?_⟩⟩
      refine ite2 (fun _ => ?_) (fun _ => hrest _ _ ⟨1, rfl, bl1, hB1, by decide, by decide⟩)
      exact ⟨_, rfl, b, g, 12, rfl, hB1, by decide, by decide, fun G2 r2 bl2 hB2 r20 r21 => ⟨_, _, rfl, rfl, hrest _ _ ⟨_, rfl, bl1.trans bl2, hB2, by omega, by omega⟩⟩⟩
theorem scLock : FnScope ["box"] ["box"] (defScope sLock) := ⟨rfl, rfl, rfl, by decide +kernel, rfl, by decide +kernel, by decide +kernel⟩
theorem ok_lock {f : Addr} {fd : FuncData} {k : Nat} (F : Fun K "_law_lock" "_law_lock" sLock f fd) (T : Tx mg) (cD : Cal P w K mg base (k + 3) "_law_draw" ["box", "menu"] spDraw) : FnOk P w K mg base CX0 (k + 4) f fd ["box"] spLock := by
  refine F.ok scLock (fun vs H Q E h => ?_) (fun cdv A outer s H vs Q E hr h => ?_)
  · obtain ⟨b, g, rfl, _⟩ := h
    rfl
  · obtain ⟨b, g, rfl, hB, q⟩ := h
    refine ⟨_, (pss_one (ps_ret (pe_ifExp (pt_cmpR op_eq (pe_c cD hr (by omega) (by rfl) (pa_cons (pv 0) (pa_cons pe_int pa_nil))) pe_int (nomark _)) (pe_c cD hr (by omega) (by rfl) (pa_cons (pv 0) (pa_cons (pe_op op_pow pe_int pe_int) pa_nil))) (pe_c cD hr (by omega) (by rfl) (pa_cons (pv 0) (pa_cons pe_int pa_nil)))))), ?_⟩
    refine ⟨_, rfl, b, g, 9, rfl, hB, by decide, by decide, fun G1 r bl1 hB1 r0 r1 => ⟨rfl, _, rfl, ?_⟩⟩
    refine ite2 (fun _ => ?_) (fun _ => ?_)
    · refine ⟨_, rfl, _, _, rfl, rfl, ⟨by decide, by decide, by decide⟩, b, g, _, rfl, hB1, by decide, by decide, fun G2 r2 bl2 hB2 r20 r21 => q G2 r2 (bl1.trans bl2) hB2 r20 ?_⟩
      have e : (10 : Int) ^ (Int.toNat 30) ≤ maxI := by decide
      omega
    · refine ⟨_, rfl, b, g, 60, rfl, hB1, by decide, by decide, fun G2 r2 bl2 hB2 r20 r21 => q G2 r2 (bl1.trans bl2) hB2 r20 ?_⟩
      have e : (60 : Int) ≤ maxI := by decide
      omega
abbrev nBen : List Str := ["node", "level", "index", "first", "many", "k"]
theorem scBen : FnScope nBen ["node"] (defScope sBen) := ⟨rfl, rfl, rfl, by decide +kernel, rfl, by decide +kernel, by decide +kernel⟩
theorem ok_ben {f : Addr} {fd : FuncData} {k : Nat} (F : Fun K "_law_beneath" "_law_beneath" sBen f fd) (T : Tx mg) : FnOk P w K mg base CX0 (k + 1) f fd ["node"] spBen := by
  refine F.ok scBen (fun vs H Q E h => ?_) (fun cdv A outer s H vs Q E hr h => ?_)
  · obtain ⟨a, lev, idx, rfl, _⟩ := h
    rfl
  · obtain ⟨a, lev, idx, rfl, ha, hl, hx, q⟩ := h
    refine ⟨_, (pss_cons (ps_asg (pv 0) (pg_tup rfl (pgs_cons (pg_name (i := 1) scBen.nd rfl (Or.inl rfl)) (pgs_cons (pg_name (i := 2) scBen.nd rfl (Or.inl rfl)) pgs_nil)))) (pss_cons (ps_asg (pe_tup (pa_cons (pv 2) (pa_cons pe_int pa_nil))) (pg_tup rfl (pgs_cons (pg_name (i := 3) scBen.nd rfl (Or.inr rfl)) (pgs_cons (pg_name (i := 4) scBen.nd rfl (Or.inl rfl)) pgs_nil)))) (pss_cons (ps_for PassesOwn.never rfl (pi_range1 (by rfl) T.range_ (pa_cons (pv 1) pa_nil)) (pg_name (i := 5) scBen.nd rfl (Or.inl rfl)) (pss_one (ps_asg (pe_tup (pa_cons (pe_op op_mul pe_int (pv 3)) (pa_cons (pe_op op_mul pe_int (pv 4)) pa_nil))) (pg_tup rfl (pgs_cons (pg_name (i := 3) scBen.nd rfl (Or.inr rfl)) (pgs_cons (pg_name (i := 4) scBen.nd rfl (Or.inl rfl)) pgs_nil)))))) (pss_one (ps_ret (pe_lc (own := [("k", 5)]) (g := gName 5) rfl scBen.nd (pi_range1 (by rfl) T.range_ (pa_cons (pv 4) pa_nil)) (blkOk_by (N := nBen) (sc := defScope sBen) (by decide +kernel)) (fun _ _ _ _ _ => pg_name (i := 5) scBen.nd rfl (Or.inl rfl)) (fun _ _ _ _ _ => pts_nil) (fun _ _ _ _ _ => (pe_op op_add (pv 3) (pv 5))))))))), ?_⟩
    refine ⟨_, rfl, a, _, rfl, .of ha, rfl, _, _, rfl, _, _, rfl, rfl, ?_⟩
    refine ⟨_, rfl, by show 2 ≤ sizeLine; decide, fun p np => ⟨p, _, rfl, .of upd_same, rfl, _, _, rfl, _, _, rfl, rfl, ?_⟩⟩
    have s1 := same_upd (o := HO.tup [.int (idx : Nat), .int 1]) np
    generalize upd H p (.tup [.int (idx : Nat), .int 1]) = H1 at *
    refine ⟨_, rfl, _, rfl, by omega, by omega, ?_⟩
    refine for_it (walk_range (lo := 0)) (fun i σ G => ∃ y5, σ = [some (.ref a), some (.int (lev : Nat)), some (.int (idx : Nat)), some (.int ((idx * 2 ^ i : Nat) : Int)), some (.int ((2 ^ i : Nat) : Int)), y5] ∧ Same H G) ⟨_, by rw [Nat.pow_zero, Nat.mul_one]; rfl, s1⟩ (fun i σ G _ _ => trivial) ?_ ?_
    · rintro i y σ G G' hi ⟨y5, rfl, sm⟩ ⟨rfl, rfl⟩
      refine ⟨_, rfl, _, _, rfl, rfl, .inl ⟨by decide, by decide⟩, _, rfl, _, _, rfl, rfl, .inl ⟨by decide, by decide⟩, by show 2 ≤ sizeLine; decide, fun p np => ⟨p, _, rfl, .of upd_same, rfl, _, _, rfl, _, _, rfl, rfl, ?_⟩⟩
      have s2 := same_upd (o := HO.tup [.int (2 * ((idx * 2 ^ i : Nat) : Int)), .int (2 * ((2 ^ i : Nat) : Int))]) np
      have e1 : (2 * ((idx * 2 ^ i : Nat) : Int)) = ((idx * 2 ^ (i + 1) : Nat) : Int) := by
        rw [Nat.pow_succ, ← Nat.mul_assoc]; omega
      have e2 : (2 * ((2 ^ i : Nat) : Int)) = ((2 ^ (i + 1) : Nat) : Int) := by
        rw [Nat.pow_succ]; omega
      refine ⟨some (.int (0 + (i : Nat))), ?_, sm.trans s2⟩
      show [some (V.ref a), some (V.int (lev : Nat)), some (V.int (idx : Nat)), some (V.int (2 * ((idx * 2 ^ i : Nat) : Int))), some (V.int (2 * ((2 ^ i : Nat) : Int))), some (V.int (0 + (i : Nat)))] = _
      rw [e1, e2]
    · rintro σ G ⟨y5, rfl, sm⟩
      have e : ((lev : Nat) : Int).toNat = lev := by omega
      rw [e]
      have hp : 2 ^ lev ≤ 256 := Nat.le_trans (Nat.pow_le_pow_right (by decide) hl) (by decide)
      obtain ⟨M, hM⟩ : ∃ M, M = 2 ^ lev := ⟨_, rfl⟩
      rw [← hM] at hp ⊢
      refine ⟨_, rfl, _, rfl, by omega, by omega, fun D nD => ?_⟩
      refine lcP (walk_range (lo := 0)) (fun i => V.int ((idx * M + i : Nat) : Int)) (Nat.lt_of_le_of_lt (show ((M : Nat) : Int).toNat ≤ 256 by omega) (by decide)) nD (fun _ _ => trivial) ?_ ?_
      · rintro i y G1 G2 Q' hi s2 ⟨rfl, rfl⟩ hq
        refine ⟨rfl, _, rfl, _, rfl, _, _, rfl, rfl, ?_⟩
        have e3 : (((idx * M : Nat) : Int) + (0 + (i : Nat))) = ((idx * M + i : Nat) : Int) := by omega
        dsimp only
        rw [e3]
        exact hq _ (Same.refl _)
      · intro G1 s2 hD
        have e4 : (((M : Nat) : Int).toNat) = M := by omega
        rw [e4] at hD
        refine q G1 D (sm.trans s2) (sm.free nD) (hD.trans ?_)
        unfold nN benL
        rw [← hM, List.map_map]
        rfl
end
end L2.My
end
section
set_option Elab.async false
set_option linter.all false
set_option maxRecDepth 100000
set_option maxHeartbeats 4000000
/-! What is drawn is a tree. -/
namespace L2.My
open PySem PySem.Spec PyProof.Rows
structure RowOk (h : Nat) (ls : List Lf) (n : Nd) : Prop where
  l1 : 1 ≤ n.1.1
  lh : n.1.1 ≤ h
  at' : n.1.2 < 2 ^ (h - n.1.1)
  k0 : 0 ≤ n.2.1
  k1 : n.2.1 ≤ maxI
  pw : n.2.2.Pairwise (· < ·)
  le : n.2.2.length ≤ 256
  as : ∀ j ∈ n.2.2, j / 2 ^ n.1.1 = n.1.2 ∧ ∃ z, ls[j]? = some (some z)
def nI2 (n : Nd) : List Int := [((n.1.1 : Nat) : Int), ((n.1.2 : Nat) : Int)]
structure DrT (h : Nat) (ls : List Lf) (ns : List Nd) : Prop where
  h8 : h ≤ 8
  ll : ls.length = 2 ^ h
  gl : ∀ l ∈ ls, GLf l
  nd : ((ls.filterMap id).map (·.1)).Nodup
  gn : ∀ n ∈ ns, RowOk h ls n
  asc : ascBy HT.lexLt (ns.map nI2) = true
  nl : ns.length ≤ 1152
theorem pow8 {h : Nat} (hh : h ≤ 8) : 2 ^ h ≤ 256 := Nat.le_trans (Nat.pow_le_pow_right (by decide) hh) (by decide)
theorem DrT.l256 {h : Nat} {ls : List Lf} {ns : List Nd} (d : DrT h ls ns) : ls.length ≤ 256 := by
  rw [d.ll]; exact pow8 d.h8
theorem lf_non {H : Hp} {v : V} {l : Lf} (h : LfAt H v l) : notNon v = l.isSome := by
  cases l with
  | none => cases h; rfl
  | some p => obtain ⟨a, rfl, _⟩ := h; rfl
theorem lf_list {H : Hp} {vs : List V} {ls : List Lf} (h : Paired (LfAt H) vs ls) (hg : ∀ l ∈ ls, GLf l) : (vs.filter notNon).all (memB H) = true ∧ (vs.filter notNon).map (nameV H) = (ls.filterMap id).map (·.1) := by
  induction h with
  | nil => exact ⟨rfl, rfl⟩
  | @cons v l vs ls r t ih =>
    obtain ⟨i1, i2⟩ := ih fun x hx => hg x (List.mem_cons_of_mem _ hx)
    cases l with
    | none => cases r; exact ⟨i1, i2⟩
    | some p =>
      obtain ⟨z, i⟩ := p
      obtain ⟨a, rfl, ha⟩ := r
      obtain ⟨g1, g2, _⟩ := hg _ List.mem_cons_self z i rfl
      have e1 : memB H (.ref a) = true := by
        rw [memB_at (tupOf_at ha)]
        show (wordB z && decide (0 ≤ i)) = true
        rw [g1, decide_eq_true g2]
        rfl
      have e2 : nameV H (.ref a) = z := by
        unfold nameV
        rw [tupOf_at ha]
      refine ⟨?_, ?_⟩
      · show (memB H (.ref a) && (vs.filter notNon).all (memB H)) = true
        rw [e1, i1]; rfl
      · show nameV H (.ref a) :: (vs.filter notNon).map (nameV H) = z :: (ls.filterMap id).map (·.1)
        rw [e2, i2]
theorem leaves_ok {H : Hp} {h : Nat} {vs : List V} {ls : List Lf} {ns : List Nd} (hp : Paired (LfAt H) vs ls) (d : DrT h ls ns) : leavesL H h vs = true := by
  obtain ⟨e1, e2⟩ := lf_list hp d.gl
  unfold leavesL
  rw [e1, e2, decide_eq_true d.nd, decide_eq_true (show vs.length = 2 ^ h by rw [Paired.len hp, d.ll])]
  rfl
theorem asc_pw : ∀ {l : List Nat}, l.Pairwise (· < ·) → ascBy ltI (l.map fun (j : Nat) => (j : Int)) = true
  | [], _ => rfl
  | [_], _ => rfl
  | x :: y :: r, h => by
    have h1 := List.rel_of_pairwise_cons h (List.mem_cons_self (a := y) (l := r))
    show (decide ((x : Int) < (y : Int)) && ascBy ltI ((y :: r).map fun (j : Nat) => (j : Int))) = true
    rw [asc_pw (List.Pairwise.of_cons h), decide_eq_true (by omega)]
    rfl
theorem row_ok {H : Hp} {v : V} {n : Nd} {h : Nat} {vs : List V} {ls : List Lf} (hn : NdAt H v n) (r : RowOk h ls n) (hp : Paired (LfAt H) vs ls) : keptB H h vs v = true ∧ rowI H v = nI2 n := by
  obtain ⟨a, na, ca, rfl, h1, h2, h3⟩ := hn
  have t2 := tupOf_at h2
  have t3 := tupOf_at h3
  refine ⟨?_, ?_⟩
  · have e1 : levV H (.ref na) = n.1.1 := by unfold levV; rw [t2]; rfl
    have e2 : atV H (.ref na) = n.1.2 := by unfold atV; rw [t2]; rfl
    have e3 : nodeB H h (.ref na) = true := by
      unfold nodeB
      rw [t2]
      show (decide (0 ≤ ((n.1.1 : Nat) : Int) ∧ ((n.1.1 : Nat) : Int) < (h : Int) + 1) && decide (0 ≤ ((n.1.2 : Nat) : Int) ∧ ((n.1.2 : Nat) : Int) < (2 : Int) ^ (h - ((n.1.1 : Nat) : Int).toNat))) = true
      have c1 := r.lh
      have c2 := r.at'
      have e : ((2 : Int) ^ (h - ((n.1.1 : Nat) : Int).toNat)) = ((2 ^ (h - n.1.1) : Nat) : Int) := by
        rw [Int.toNat_natCast]; push_cast; rfl
      rw [e, decide_eq_true (by omega), decide_eq_true ⟨by omega, Int.ofNat_lt.mpr c2⟩]
      rfl
    rw [keptB_at (tupOf_at h1), e1, e2, e3, decide_eq_true (show n.1.1 ≠ 0 by have := r.l1; omega), asideB_at t3]
    have e4 : numV (.int n.2.1) = true := decide_eq_true r.k0
    have e5 : (nN n.2.2).all (belowV (vs.length : Int)) = true := by
      unfold nN
      rw [List.all_map, List.all_eq_true]
      intro j hj
      obtain ⟨_, z, hz⟩ := r.as j hj
      have := (List.getElem?_eq_some_iff.mp hz).1
      have := Paired.len hp
      exact decide_eq_true (show (0 : Int) ≤ (j : Nat) ∧ ((j : Nat) : Int) < (vs.length : Int) by omega)
    have e6 : (nN n.2.2).map intV = n.2.2.map fun (j : Nat) => (j : Int) := by
      unfold nN
      rw [List.map_map]
      rfl
    have e7 : ((nN n.2.2).all fun x => decide (iV x / 2 ^ n.1.1 = n.1.2) && notNon (vs.getD (iV x) .non)) = true := by
      unfold nN
      rw [List.all_map, List.all_eq_true]
      intro j hj
      obtain ⟨c, z, hz⟩ := r.as j hj
      obtain ⟨v, hv, hl⟩ := Paired.at hp hz
      show (decide (((j : Nat) : Int).toNat / 2 ^ n.1.1 = n.1.2) && notNon (vs.getD ((j : Nat) : Int).toNat .non)) = true
      rw [Int.toNat_natCast, decide_eq_true c, List.getD_eq_getElem?_getD, hv]
      exact lf_non hl
    rw [e4, e5, e6, asc_pw r.pw, e7]
    rfl
  · unfold rowI
    rw [tupOf_at h1]
    show nodI H (.ref na) = _
    unfold nodI
    rw [t2]
    rfl
theorem rows_ok {H : Hp} {ws : List V} {ns : List Nd} {h : Nat} {vs : List V} {ls : List Lf} (hn : Paired (NdAt H) ws ns) (r : ∀ n ∈ ns, RowOk h ls n) (hp : Paired (LfAt H) vs ls) : ws.all (keptB H h vs) = true ∧ ws.map (rowI H) = ns.map nI2 := by
  induction hn with
  | nil => exact ⟨rfl, rfl⟩
  | @cons w n ws ns q t ih =>
    obtain ⟨i1, i2⟩ := ih fun x hx => r x (List.mem_cons_of_mem _ hx)
    obtain ⟨j1, j2⟩ := row_ok q (r n List.mem_cons_self) hp
    exact ⟨by rw [List.all_cons, j1, i1]; rfl, by rw [List.map_cons, List.map_cons, j2, i2]⟩
theorem nodes_ok {H : Hp} {na : Addr} {h : Nat} {vs : List V} {ls : List Lf} {ns : List Nd} (hp : Paired (LfAt H) vs ls) (hN : NdsAt H na ns) (d : DrT h ls ns) : nodesB H h vs (.ref na) = true := by
  obtain ⟨ws, hb, hq⟩ := hN
  obtain ⟨r1, r2⟩ := rows_ok hq d.gn hp
  rw [nodesB_at (tupOf_at hb), r1, r2, d.asc]
  rfl
/-! ### and made of things -/
section
variable {b : Addr} {H : Hp}
theorem thg_lf {v : V} {l : Lf} (n : NoTup H b) (h : LfAt H v l) (g : GLf l) : Thg b H v := by
  cases l with
  | none => cases h; exact .non
  | some p =>
    obtain ⟨z, i⟩ := p
    obtain ⟨a, rfl, ha⟩ := h
    obtain ⟨g1, g2, g3⟩ := g z i rfl
    refine .tup ha (n.ne ha) (by show 2 ≤ 5000; decide) fun x hx => ?_
    rcases List.mem_cons.mp hx with rfl | hx
    · exact .str _ (Nat.le_trans (word_low g1).1 (by decide))
    · rw [List.mem_singleton.mp hx]; exact .int _ g3
theorem thg_lvs {vs : List V} {ls : List Lf} (n : NoTup H b) (hp : Paired (LfAt H) vs ls) (g : ∀ l ∈ ls, GLf l) : ∀ x ∈ vs, Thg b H x := fun x hx => by
  obtain ⟨i, hi⟩ := List.getElem?_of_mem hx
  obtain ⟨l, h1, h2⟩ := Paired.at' hp hi
  exact thg_lf n h2 (g l (List.mem_of_getElem? h1))
theorem thg_nats {a : Addr} {js : List Nat} (n : NoTup H b) (h : H a = some (.tup (nN js))) (hl : js.length ≤ 5000) (hj : ∀ j ∈ js, j < 256) : Thg b H (.ref a) := by
  refine .tup h (n.ne h) (by unfold nN; rw [List.length_map]; exact hl) fun x hx => ?_
  obtain ⟨j, h1, rfl⟩ := List.mem_map.mp hx
  refine .int _ ?_
  have := hj j h1
  have e : (256 : Int) ≤ maxI := by decide
  omega
theorem thg_pair {a : Addr} {i j : Nat} (n : NoTup H b) (h : H a = some (.tup [.int (i : Nat), .int (j : Nat)])) (hi : i ≤ 1000) (hj : j ≤ 1000) : Thg b H (.ref a) := by
  have e : (1000 : Int) ≤ maxI := by decide
  refine .tup h (n.ne h) (by show 2 ≤ 5000; decide) fun x hx => ?_
  rcases List.mem_cons.mp hx with rfl | hx
  · exact .int _ (by omega)
  · rw [List.mem_singleton.mp hx]; exact .int _ (by omega)
theorem RowOk.b128 {h : Nat} {ls : List Lf} {n : Nd} (r : RowOk h ls n) (hh : h ≤ 8) : n.1.2 < 128 := by
  have h1 := r.at'
  have h2 : 2 ^ (h - n.1.1) ≤ 2 ^ 7 := Nat.pow_le_pow_right (by decide) (by have := r.l1; omega)
  have h3 : (2 : Nat) ^ 7 = 128 := by decide
  omega
theorem thg_nd {v : V} {nd : Nd} {h : Nat} {ls : List Lf} (n : NoTup H b) (hv : NdAt H v nd) (r : RowOk h ls nd) (hh : h ≤ 8) (hl : ls.length ≤ 256) : Thg b H v := by
  obtain ⟨a, na, ca, rfl, h1, h2, h3⟩ := hv
  refine .tup h1 (n.ne h1) (by show 3 ≤ 5000; decide) fun x hx => ?_
  rcases List.mem_cons.mp hx with rfl | hx
  · exact thg_pair n h2 (by have := r.lh; omega) (by have := r.b128 hh; omega)
  · rcases List.mem_cons.mp hx with rfl | hx
    · exact .int _ r.k1
    · rw [List.mem_singleton.mp hx]
      refine thg_nats n h3 (Nat.le_trans r.le (by decide)) fun j hj => ?_
      obtain ⟨_, z, hz⟩ := r.as j hj
      have := (List.getElem?_eq_some_iff.mp hz).1
      omega
theorem thg_nds {a : Addr} {ns : List Nd} {h : Nat} {ls : List Lf} (n : NoTup H b) (hN : NdsAt H a ns) (d : DrT h ls ns) : Thg b H (.ref a) := by
  obtain ⟨ws, ha, hp⟩ := hN
  refine .tup ha (n.ne ha) (by rw [Paired.len hp]; exact Nat.le_trans d.nl (by decide)) fun x hx => ?_
  obtain ⟨i, hi⟩ := List.getElem?_of_mem hx
  obtain ⟨l, h1, h2⟩ := Paired.at' hp hi
  exact thg_nd n h2 (d.gn l (List.mem_of_getElem? h1)) d.h8 d.l256
end
end L2.My
end
section
set_option Elab.async false
set_option linter.all false
set_option maxRecDepth 100000
set_option maxHeartbeats 4000000
/-! A tree is drawn. -/
namespace L2.My
open PySem PySem.Spec PyProof.Rows
abbrev sTr : Stmt := top 39
abbrev nTr : List Str := ["box", "most", "height", "leaves", "names", "leaf", "name", "nodes", "many", "level", "index", "beneath", "aside"]
theorem can_strs : ∀ zs : List Str, (∀ z ∈ zs, wordB z = true) → PyData.canLayAll0 (zs.map PyData.str) = true
  | [], _ => rfl
  | z :: r, h => by
    rw [List.map_cons, PyData.canLayAll0, can_strs r fun y hy => h y (List.mem_cons_of_mem _ hy), (Nice.str (word_low (h z List.mem_cons_self)).2).cl]
    rfl
theorem dep_strs : ∀ zs : List Str, PyData.depthAll (zs.map PyData.str) ≤ 1
  | [] => by decide
  | z :: r => by
    have := dep_strs r
    simp only [List.map_cons, PyData.depthAll, PyData.depth]
    omega
theorem shaped_strs (zs : List Str) (h : ∀ z ∈ zs, wordB z = true) : SeqAt.shaped (.list (zs.map PyData.str)) = true := by
  have h1 : PyData.canLay0 (.list (zs.map PyData.str)) = true := by rw [PyData.canLay0]; exact can_strs zs h
  have h2 := dep_strs zs
  unfold SeqAt.shaped
  rw [h1, Bool.true_and]
  refine decide_eq_true ?_
  simp only [PyData.depth]
  omega
theorem shaped_str {z : Str} (h : wordB z = true) : SeqAt.shaped (.str z) = true := by
  unfold SeqAt.shaped
  rw [(Nice.str (word_low h).2).cl, PyData.depth]
  decide
theorem dp_strs {K : PySem.W.Frag} {H : Hp} : ∀ zs : List Str, DpAll K H (zs.map V.str) (zs.map PyData.str)
  | [] => .nil
  | z :: r => .cons (.str z) (dp_strs r)
theorem any_strs (z : Str) : ∀ zs : List Str, ((zs.map PyData.str).any fun y => PyData.eqv y (.str z)) = decide (z ∈ zs)
  | [] => rfl
  | y :: r => by
    rw [List.map_cons, List.any_cons, any_strs z r, eqv_s, ← Bool.decide_or]
    refine decide_eq_decide.mpr ?_
    rw [List.mem_cons]
    exact or_congr_left ⟨Eq.symm, Eq.symm⟩
theorem rNotIn_strs {K : PySem.W.Frag} {H : Hp} {a : Addr} {z : Str} {zs : List Str} {Q : VK} (h : H a = some (.lst (zs.map V.str))) (hz : wordB z = true) (hs : ∀ y ∈ zs, wordB y = true) (q : Q (.bl (!decide (z ∈ zs))) H) : rNotInD K (.str z) (.ref a) H Q :=
  ⟨.str z, zs.map PyData.str, .str z, .lst (.of h) (dp_strs zs), shaped_str hz, shaped_strs zs hs, by rw [any_strs]; exact q⟩
theorem rIn_strs {K : PySem.W.Frag} {H : Hp} {a : Addr} {z : Str} {zs : List Str} {Q : VK} (h : H a = some (.lst (zs.map V.str))) (hz : wordB z = true) (hs : ∀ y ∈ zs, wordB y = true) (q : Q (.bl (decide (z ∈ zs))) H) : rInD K (.str z) (.ref a) H Q :=
  ⟨.str z, zs.map PyData.str, .str z, .lst (.of h) (dp_strs zs), shaped_str hz, shaped_strs zs hs, by rw [any_strs]; exact q⟩
/-- the words among leaves -/
def wds (ls : List Lf) : List Str := (ls.filterMap id).map (·.1)
theorem wds_none (ls : List Lf) : wds (ls ++ [none]) = wds ls := by
  unfold wds
  rw [List.filterMap_append]
  simp
theorem wds_some (ls : List Lf) (p : Str × Int) : wds (ls ++ [some p]) = wds ls ++ [p.1] := by
  unfold wds
  rw [List.filterMap_append]
  simp
theorem wds_word {ls : List Lf} (h : ∀ l ∈ ls, GLf l) : ∀ z ∈ wds ls, wordB z = true := fun z hz => by
  unfold wds at hz
  obtain ⟨p, hp, rfl⟩ := List.mem_map.mp hz
  obtain ⟨l, hl, e⟩ := List.mem_filterMap.mp hp
  exact (h l hl p.1 p.2 e).1
/-- while leaves are drawn -/
structure LvI (b g Lv Nm : Addr) (H G : Hp) (i : Nat) (ls : List Lf) : Prop where
  bl : BL [b] H G
  hb : BoxAt G b g
  vs : ∃ vs, G Lv = some (.lst vs) ∧ Paired (LfAt G) vs ls
  nm : G Nm = some (.lst ((wds ls).map V.str))
  len : ls.length = i
  gl : ∀ l ∈ ls, GLf l
  nd : (wds ls).Nodup
section
variable {b g Lv Nm : Addr} {H G G' : Hp} {i : Nat} {ls : List Lf}
theorem LvI.step (h : LvI b g Lv Nm H G i ls) (s : BL [b] G G') (hb : BoxAt G' b g) (n1 : Lv ≠ b) (n2 : Nm ≠ b) : LvI b g Lv Nm H G' i ls := by
  obtain ⟨vs, e1, e2⟩ := h.vs
  exact ⟨h.bl.trans s, hb, ⟨vs, s _ _ (by simpa using n1) e1, Paired.mapP e2 fun _ _ r => r.tk (h.hb.tk s)⟩, s _ _ (by simpa using n2) h.nm, h.len, h.gl, h.nd⟩
theorem LvI.addN (h : LvI b g Lv Nm H G i ls) (hLv : H Lv = none) (n1 : Lv ≠ b) (n2 : Lv ≠ g) (n3 : Nm ≠ Lv) {vs : List V} (e1 : G Lv = some (.lst vs)) (e2 : Paired (LfAt G) vs ls) : LvI b g Lv Nm H (upd G Lv (.lst (vs ++ [.non]))) (i + 1) (ls ++ [none]) := by
  have tk : TK G (upd G Lv (.lst (vs ++ [.non]))) := .upd e1 (fun _ e => by cases e)
  refine ⟨h.bl.put hLv, h.hb.put n1 n2, ⟨_, upd_same, Paired.snoc (Paired.mapP e2 fun _ _ r => r.tk tk) rfl⟩, ?_, by rw [List.length_append, h.len]; rfl, fun l hl => ?_, by rw [wds_none]; exact h.nd⟩
  · rw [upd_ne n3, wds_none]; exact h.nm
  · rcases List.mem_append.mp hl with z | z
    · exact h.gl l z
    · rw [List.mem_singleton.mp z]; intro z i e; cases e
theorem LvI.addS (hbl : BL [b] H G) (hb : BoxAt G b g) (hLv : H Lv = none) (n1 : Lv ≠ b) (n2 : Lv ≠ g) (n3 : Nm ≠ Lv) {vs : List V} (e1 : G Lv = some (.lst vs)) (e2 : Paired (LfAt G) vs ls) {z : Str} {r : Int} {p : Addr} (hN : G Nm = some (.lst ((wds ls).map V.str ++ [.str z]))) (hl : ls.length = i) (gl : ∀ l ∈ ls, GLf l) (nd : (wds ls).Nodup) (hz : z ∉ wds ls) (hw : wordB z = true) (r0 : 0 ≤ r) (r1 : r ≤ maxI) (hp : G p = some (.tup [.str z, .int r])) :
    LvI b g Lv Nm H (upd G Lv (.lst (vs ++ [.ref p]))) (i + 1) (ls ++ [some (z, r)]) := by
  have tk : TK G (upd G Lv (.lst (vs ++ [.ref p]))) := .upd e1 (fun _ e => by cases e)
  refine ⟨hbl.put hLv, hb.put n1 n2, ⟨_, upd_same, Paired.snoc (Paired.mapP e2 fun _ _ r => r.tk tk) ⟨p, rfl, tk.1 _ _ hp⟩⟩, ?_, by rw [List.length_append, hl]; rfl, fun l hl => ?_, ?_⟩
  · rw [upd_ne n3, wds_some, List.map_append]; exact hN
  · rcases List.mem_append.mp hl with z | z
    · exact gl l z
    · rw [List.mem_singleton.mp z]; intro z i e; cases e; exact ⟨hw, r0, r1⟩
  · rw [wds_some]; exact nodup_snoc.mpr ⟨nd, hz⟩
end
section
variable {P : Program} {w : World} {K : PySem.W.Frag} {mg : Str → Option Value} {base : Heap}
/-- while nodes are drawn -/
structure NdI (b g Lv Nl : Addr) (H G : Hp) (h : Nat) (ls : List Lf) (ns : List Nd) (lev at' : Nat) : Prop where
  bl : BL [b] H G
  hb : BoxAt G b g
  vs : ∃ vs, G Lv = some (.lst vs) ∧ Paired (LfAt G) vs ls
  ws : ∃ ws, G Nl = some (.lst ws) ∧ Paired (NdAt G) ws ns
  gn : ∀ n ∈ ns, RowOk h ls n
  asc : ascBy HT.lexLt (ns.map nI2) = true
  lt : ∀ n ∈ ns, n.1.1 < lev ∨ (n.1.1 = lev ∧ n.1.2 < at')
  nl : ns.length ≤ (lev - 1) * 128 + at'
theorem NdI.step {b g Lv Nl : Addr} {H G G' : Hp} {h lev at' : Nat} {ls : List Lf} {ns : List Nd} (x : NdI b g Lv Nl H G h ls ns lev at') (s : BL [b] G G') (hb : BoxAt G' b g) (n1 : Lv ≠ b) (n2 : Nl ≠ b) : NdI b g Lv Nl H G' h ls ns lev at' := by
  obtain ⟨vs, e1, e2⟩ := x.vs
  obtain ⟨ws, f1, f2⟩ := x.ws
  have tk := x.hb.tk s
  exact ⟨x.bl.trans s, hb, ⟨vs, s _ _ (by simpa using n1) e1, Paired.mapP e2 fun _ _ r => r.tk tk⟩, ⟨ws, s _ _ (by simpa using n2) f1, Paired.mapP f2 fun _ _ r => r.tk tk⟩, x.gn, x.asc, x.lt, x.nl⟩
theorem asc_snoc {α : Type} {lt : α → α → Bool} {x : α} : ∀ {l : List α}, (∀ y ∈ l, lt y x = true) → ascBy lt l = true → ascBy lt (l ++ [x]) = true
  | [], _, _ => rfl
  | [y], h, _ => by
    show (lt y x && true) = true
    rw [h y List.mem_cons_self]; rfl
  | y :: z :: r, h, e => by
    obtain ⟨e1, e2⟩ := Bool.and_eq_true_iff.mp (show (lt y z && ascBy lt (z :: r)) = true from e)
    show (lt y z && ascBy lt ((z :: r) ++ [x])) = true
    rw [e1, asc_snoc (fun a ha => h a (List.mem_cons_of_mem _ ha)) e2]; rfl
theorem NdI.weak {b g Lv Nl : Addr} {H G : Hp} {h lev at' : Nat} {ls : List Lf} {ns : List Nd} (x : NdI b g Lv Nl H G h ls ns lev at') : NdI b g Lv Nl H G h ls ns lev (at' + 1) :=
  ⟨x.bl, x.hb, x.vs, x.ws, x.gn, x.asc, fun n hn => (x.lt n hn).imp_right fun e => ⟨e.1, by omega⟩, by have := x.nl; omega⟩
theorem NdI.next {b g Lv Nl : Addr} {H G : Hp} {h lev at' : Nat} {ls : List Lf} {ns : List Nd} (x : NdI b g Lv Nl H G h ls ns lev at') (h1 : 1 ≤ lev) (ha : at' ≤ 128) : NdI b g Lv Nl H G h ls ns (lev + 1) 0 :=
  ⟨x.bl, x.hb, x.vs, x.ws, x.gn, x.asc, fun n hn => .inl (by rcases x.lt n hn with e | e <;> omega), by have := x.nl; omega⟩
theorem NdI.add {b g Lv Nl : Addr} {H G : Hp} {h lev at' : Nat} {ls : List Lf} {ns : List Nd} (x : NdI b g Lv Nl H G h ls ns lev at') (hNl : H Nl = none) (n1 : Nl ≠ b) (n2 : Nl ≠ g) (n3 : Lv ≠ Nl) {ws : List V} (f1 : G Nl = some (.lst ws)) (f2 : Paired (NdAt G) ws ns) {v : V} {n : Nd} (hv : NdAt G v n) (hr : RowOk h ls n) (hl : n.1.1 = lev) (ha : n.1.2 = at') :
    NdI b g Lv Nl H (upd G Nl (.lst (ws ++ [v]))) h ls (ns ++ [n]) lev (at' + 1) := by
  have tk : TK G (upd G Nl (.lst (ws ++ [v]))) := .upd f1 (fun _ e => by cases e)
  obtain ⟨vs, e1, e2⟩ := x.vs
  refine ⟨x.bl.put hNl, x.hb.put n1 n2, ⟨vs, by rw [upd_ne n3]; exact e1, Paired.mapP e2 fun _ _ r => r.tk tk⟩, ⟨_, upd_same, Paired.snoc (Paired.mapP f2 fun _ _ r => r.tk tk) (hv.tk tk)⟩, fun m hm => ?_, ?_, fun m hm => ?_, ?_⟩
  · rcases List.mem_append.mp hm with z | z
    · exact x.gn m z
    · rw [List.mem_singleton.mp z]; exact hr
  · rw [List.map_append]
    refine asc_snoc (fun y hy => ?_) x.asc
    obtain ⟨m, hm, rfl⟩ := List.mem_map.mp hy
    show HT.lexLt [((m.1.1 : Nat) : Int), ((m.1.2 : Nat) : Int)] [((n.1.1 : Nat) : Int), ((n.1.2 : Nat) : Int)] = true
    rw [HT.lexLt_cons]
    rcases x.lt m hm with e | ⟨e, e'⟩
    · rw [if_neg (by omega), decide_eq_true_eq]; omega
    · rw [if_pos (by omega), HT.lexLt_cons, if_neg (by omega), decide_eq_true_eq]; omega
  · rcases List.mem_append.mp hm with z | z
    · exact (x.lt m z).imp_right fun e => ⟨e.1, by omega⟩
    · rw [List.mem_singleton.mp z]; exact .inr ⟨hl, by omega⟩
  · have := x.nl
    rw [List.length_append, List.length_singleton]
    omega
theorem ben_pw (lev idx : Nat) : (benL lev idx).Pairwise (· < ·) := by
  unfold benL
  rw [List.pairwise_map]
  exact List.pairwise_lt_range.imp fun h => by omega
theorem ben_mem {lev idx j : Nat} (h : j ∈ benL lev idx) : j / 2 ^ lev = idx ∧ ∃ k, k < 2 ^ lev ∧ j = idx * 2 ^ lev + k := by
  obtain ⟨k, hk, rfl⟩ := List.mem_map.mp h
  have hk := List.mem_range.mp hk
  refine ⟨?_, k, hk, rfl⟩
  rw [Nat.mul_comm, Nat.mul_add_div (by omega), Nat.div_eq_of_lt hk]
  rfl
theorem ben_lt {h lev idx j : Nat} (hj : j ∈ benL lev idx) (hi : idx < 2 ^ (h - lev)) (hl : lev ≤ h) : j < 2 ^ h := by
  obtain ⟨_, k, hk, rfl⟩ := ben_mem hj
  have e : 2 ^ h = 2 ^ (h - lev) * 2 ^ lev := by rw [← Nat.pow_add]; congr 1; omega
  rw [e]
  have h2 : (idx + 1) * 2 ^ lev ≤ 2 ^ (h - lev) * 2 ^ lev := Nat.mul_le_mul_right _ hi
  rw [Nat.add_mul, Nat.one_mul] at h2
  omega
theorem sub_snoc {l js : List Nat} {q c : Nat} (h : js.Sublist (l.take q)) (e : l[q]? = some c) : (js ++ [c]).Sublist (l.take (q + 1)) := by
  rw [take_snoc e]; exact h.append (List.Sublist.refl _)
theorem sub_skip {l js : List Nat} {q c : Nat} (h : js.Sublist (l.take q)) (e : l[q]? = some c) : js.Sublist (l.take (q + 1)) := by
  rw [take_snoc e]; exact h.trans (List.sublist_append_left _ _)
theorem ben_len (lev idx : Nat) : (benL lev idx).length = 2 ^ lev := by unfold benL; rw [List.length_map, List.length_range]
theorem nN_at {l : List Nat} {i : Nat} {x : V} (h : (nN l)[i]? = some x) : ∃ j : Nat, l[i]? = some j ∧ x = .int (j : Nat) := by
  unfold nN at h
  rw [List.getElem?_map] at h
  cases e : l[i]? with
  | none => rw [e] at h; cases h
  | some j => rw [e] at h; exact ⟨j, rfl, (Option.some.inj h).symm⟩
theorem nN_len (l : List Nat) : (nN l).length = l.length := by unfold nN; rw [List.length_map]
def spTr : Sp := fun vs H Q _ => ∃ (b g : Addr) (m : Nat), vs = [.ref b, .int (m : Nat)] ∧ BoxAt H b g ∧ m ≤ 8 ∧ ∀ H' p la na h ls ns, BL [b] H H' → BoxAt H' b g → H p = none → H' p = some (.lst [.int (h : Nat), .ref la, .ref na]) → LvsAt H' la ls → NdsAt H' na ns → DrT h ls ns → Q (.ref p) H'
theorem scTr2 : FnScope nTr ["box", "most"] (defScope sTr) := ⟨rfl, rfl, rfl, by decide +kernel, rfl, by decide +kernel, by decide +kernel⟩
theorem ok_ltree {f : Addr} {fd : FuncData} {k : Nat} (F : Fun K "_law_tree" "_law_tree" sTr f fd) (T : Tx mg) (cD : Cal P w K mg base (k + 4) "_law_draw" ["box", "menu"] spDraw) (cB : Cal P w K mg base (k + 4) "_law_beneath" ["node"] spBen) (cN : Cal P w K mg base (k + 4) "_law_name" ["box"] spName) (cL : Cal P w K mg base (k + 4) "_law_lock" ["box"] spLock) : FnOk P w K mg base CX0 (k + 5) f fd ["box", "most"] spTr := by
  refine F.ok scTr2 (fun vs H Q E h => ?_) (fun cdv A outer s H vs Q E hr h => ?_)
  · obtain ⟨b, g, m, rfl, _⟩ := h
    rfl
  · obtain ⟨b, g, m, rfl, hB, hm, q⟩ := h
    refine ⟨_, (pss_cons (ps_set (i := 2) scTr2.nd rfl (Or.inl rfl) (pe_c cD hr (by omega) (by rfl) (pa_cons (pv 0) (pa_cons (pe_op op_add (pv 1) pe_int) pa_nil)))) (pss_cons (ps_set (i := 3) scTr2.nd rfl (Or.inr rfl) (pe_lst pa_nil)) (pss_cons (ps_set (i := 4) scTr2.nd rfl (Or.inl rfl) (pe_lst pa_nil)) (pss_cons (ps_for PassesOwn.never rfl (pi_list (pe_c cB hr (by omega) (by rfl) (pa_cons (pe_tup (pa_cons (pv 2) (pa_cons pe_int pa_nil))) pa_nil))) (pg_name (i := 5) scTr2.nd rfl (Or.inl rfl)) (pss_cons (ps_set (i := 6) scTr2.nd rfl (Or.inl rfl) (pe_c cN hr (by omega) (by rfl) (pa_cons (pv 0) pa_nil))) (pss_one (ps_if (pt_and (pt_cmpR op_gt (pe_c cD hr (by omega) (by rfl) (pa_cons (pv 0) (pa_cons pe_int pa_nil))) pe_int (nomark _)) (pw_and1 (pt_cmpR (op_notInD (u65 hr)) (pv 6) (pv 4) rfl))) (pss_cons (ps_expr (pe_bm PySem.F.plainAttrs_list PySem.F.slot_list_append PySem.F.type_list_append mt_append (pv 4) (pa_cons (pv 6) pa_nil))) (pss_one (ps_expr (pe_bm PySem.F.plainAttrs_list PySem.F.slot_list_append PySem.F.type_list_append mt_append (pv 3) (pa_cons (pe_tup (pa_cons (pv 6) (pa_cons (pe_c cL hr (by omega) (by rfl) (pa_cons (pv 0) pa_nil)) pa_nil))) pa_nil))))) (pss_one (ps_expr (pe_bm PySem.F.plainAttrs_list PySem.F.slot_list_append PySem.F.type_list_append mt_append (pv 3) (pa_cons pe_non pa_nil)))))))) (pss_cons (ps_set (i := 7) scTr2.nd rfl (Or.inl rfl) (pe_lst pa_nil)) (pss_cons (ps_set (i := 8) scTr2.nd rfl (Or.inl rfl) (pe_callB call_len_seq (by rfl) T.len_ PySem.boot_len (pa_cons (pv 3) pa_nil))) (pss_cons (ps_for PassesOwn.never rfl (pi_range2 (by rfl) T.range_ (pa_cons pe_int (pa_cons (pe_op op_add (pv 2) pe_int) pa_nil))) (pg_name (i := 9) scTr2.nd rfl (Or.inl rfl)) (pss_cons (ps_set (i := 8) scTr2.nd rfl (Or.inl rfl) (pe_op op_fdiv (pv 8) pe_int)) (pss_one (ps_for PassesOwn.never rfl (pi_range1 (by rfl) T.range_ (pa_cons (pv 8) pa_nil)) (pg_name (i := 10) scTr2.nd rfl (Or.inl rfl)) (pss_one (ps_if (pt_cmpR op_eq (pe_c cD hr (by omega) (by rfl) (pa_cons (pv 0) (pa_cons pe_int pa_nil))) pe_int (nomark _)) (pss_cons (ps_setLc (own := [("leaf", 5)]) (i := 11) (g := gName 5) (te := tVar 5) (tt := tTest (tOp rNotN (tOp (rIxL K) (tVar 3) (tVar 5)) (tC .non))) rfl scTr2.nd rfl rfl (sw_true rfl rfl rfl (by decide +kernel)) (pi_list (pe_c cB hr (by omega) (by rfl) (pa_cons (pe_tup (pa_cons (pv 9) (pa_cons (pv 10) pa_nil))) pa_nil))) (blkOk_by (N := nTr) (sc := defScope sTr) (by decide +kernel)) (fun _ _ _ _ _ => pg_name (i := 5) scTr2.nd rfl (Or.inl rfl)) (fun _ _ _ _ _ => (pts_one (pt_cmpR op_notN (pe_ix ix_list (pv 3) (pv 5) (fun _ _ => rfl)) pe_non (nomark _)))) (fun _ _ _ _ _ => (pv 5))) (pss_cons (ps_set (i := 12) scTr2.nd rfl (Or.inl rfl) (pe_tupleOf (by rfl) T.tuple_ (pe_lc (own := [("leaf", 5)]) (g := gName 5) (te := tVar 5) (tt := tTest (tOp rEq (tCall spDraw [] E0 (tCons (tVar 0) (tCons (tC (.int 4)) tNil))) (tC (.int 0)))) rfl scTr2.nd (pi_list (pv 11)) (blkOk_by (N := nTr) (sc := defScope sTr) (by decide +kernel)) (fun _ _ _ _ _ => pg_name (i := 5) scTr2.nd rfl (Or.inl rfl)) (fun _ _ _ _ _ => (pts_one (pt_cmpR op_eq (pe_c cD hr (by omega) (by rfl) (pa_cons (pv 0) (pa_cons pe_int pa_nil))) pe_int (nomark _)))) (fun _ _ _ _ _ => (pv 5))))) (pss_one (ps_expr (pe_bm PySem.F.plainAttrs_list PySem.F.slot_list_append PySem.F.type_list_append mt_append (pv 7) (pa_cons (pe_tup (pa_cons (pe_tup (pa_cons (pv 9) (pa_cons (pv 10) pa_nil))) (pa_cons (pe_c cL hr (by omega) (by rfl) (pa_cons (pv 0) pa_nil)) (pa_cons (pv 12) pa_nil)))) pa_nil)))))) pss_nil)))))) (pss_one (ps_ret (pe_lst (pa_cons (pv 2) (pa_cons (pe_tupleF (by rfl) T.tuple_ (pv 3)) (pa_cons (pe_tupleOf (by rfl) T.tuple_ (pv 7)) pa_nil))))))))))))), ?_⟩
    refine ⟨_, rfl, _, rfl, _, _, rfl, rfl, b, g, _, rfl, hB, by omega, Nat.lt_of_le_of_lt (show (((m : Nat) : Int) + 1).natAbs ≤ 9 by omega) (by decide), fun H1 r bl1 hB1 r0 r1 => ?_⟩
    obtain ⟨h, rfl⟩ : ∃ h : Nat, r = h := ⟨r.toNat, by omega⟩
    have h8 : h ≤ 8 := by omega
    refine ⟨Nat.zero_le _, fun Lv nLv => ?_⟩
    have s2 := same_upd (o := HO.lst []) nLv
    have nLb := hB1.nb nLv
    have nLg := hB1.ng nLv
    have nLH := bl1.nw nLv (by simpa using nLb)
    have hLv2 : (upd H1 Lv (.lst [])) Lv = some (.lst []) := upd_same
    have hB2 := hB1.same s2
    generalize upd H1 Lv (.lst []) = H2 at *
    refine ⟨Nat.zero_le _, fun Nm nNm => ?_⟩
    have s3 := same_upd (o := HO.lst []) nNm
    have nNb := hB2.nb nNm
    have nNg := hB2.ng nNm
    have nNL : Nm ≠ Lv := fun e => by rw [e, hLv2] at nNm; cases nNm
    have nNH := (bl1.trans (.same s2)).nw nNm (by simpa using nNb)
    have hNm3 : (upd H2 Nm (.lst [])) Nm = some (.lst []) := upd_same
    have hLv3 := s3 _ _ hLv2
    have hB3 := hB2.same s3
    generalize upd H2 Nm (.lst []) = H3 at *
    refine ⟨_, rfl, by show 2 ≤ sizeLine; decide, fun p np => ⟨p, h, 0, rfl, upd_same, h8, by decide, fun H4 lb s4 nlb hlb => ⟨lb, rfl, ⟨_, SqL.of hlb⟩, ?_⟩⟩⟩
    have s34 := (same_upd (o := HO.tup [.int (h : Nat), .int 0]) np).trans s4
    have hB4 := hB3.same s34
    have nlb3 : H3 lb = none := (same_upd (o := HO.tup [.int (h : Nat), .int 0]) np).free nlb
    have nlbL : lb ≠ Lv := fun e => by rw [e, hLv3] at nlb3; cases nlb3
    have nlbN : lb ≠ Nm := fun e => by rw [e, hNm3] at nlb3; cases nlb3
    have nlbb := hB3.nb nlb3
    have i0 : LvI b g Lv Nm H H4 0 [] := ⟨((bl1.trans (.same s2)).trans (.same s3)).trans (.same s34), hB4, ⟨[], s34 _ _ hLv3, .nil⟩, s34 _ _ hNm3, rfl, by simp, by decide⟩
    refine for_it (walk_list (xs := nN (benL h 0))) (fun i σ G => ∃ y5 y6 ls, σ = [some (.ref b), some (.int (m : Nat)), some (.int (h : Nat)), some (.ref Lv), some (.ref Nm), y5, y6, none, none, none, none, none, none] ∧ LvI b g Lv Nm H G i ls ∧ G lb = some (.lst (nN (benL h 0)))) ⟨_, _, _, rfl, i0, hlb⟩ (fun i σ G _ hG => ?_) ?_ ?_
    · obtain ⟨_, _, _, _, _, h⟩ := hG
      exact .of h
    · rintro i y σ G G' hi ⟨y5, y6, ls, rfl, I, hlb⟩ ⟨rfl, hy⟩
      rw [nN_len, ben_len] at hi
      have hp8 := pow8 h8
      refine ⟨_, rfl, b, g, rfl, I.hb, fun G1 z bl5 hB5 hz => ?_⟩
      have I1 := I.step bl5 hB5 nLb nNb
      have hlb1 := bl5 _ _ (by simpa using nlbb) hlb
      refine ⟨_, rfl, b, g, 3, rfl, hB5, by decide, by decide, fun G2 r bl6 hB6 r0 r1 => ⟨_, _, rfl, rfl, _, rfl, ?_⟩⟩
      have I2 := I1.step bl6 hB6 nLb nNb
      have hlb2 := bl6 _ _ (by simpa using nlbb) hlb1
      obtain ⟨vs, e1, e2⟩ := I2.vs
      have lvs : vs.length < sizeLine := Nat.lt_of_le_of_lt (show vs.length ≤ 256 by rw [Paired.len e2, I2.len]; omega) (by decide)
      have lnm : (wds ls).length ≤ 256 := by
        have h1 := List.length_filterMap_le (f := (id : Lf → Lf)) (l := ls)
        have h2 := I2.len
        unfold wds
        rw [List.length_map]
        omega
      refine ite2 (fun _ => ?_) (fun _ => ⟨_, rfl, .inl ⟨rfl, _, SqL.of e1⟩, Lv, _, _, rfl, rfl, e1, lvs, _, _, _, rfl, I2.addN nLH nLb nLg nNL e1 e2, by rw [upd_ne nlbL]; exact hlb2⟩)
      refine ⟨_, rfl, _, rfl, rNotIn_strs I2.nm hz (wds_word I2.gl) ⟨_, rfl, ?_⟩⟩
      refine ite2 (fun hnz => ?_) (fun _ => ⟨_, rfl, .inl ⟨rfl, _, SqL.of e1⟩, Lv, _, _, rfl, rfl, e1, lvs, _, _, _, rfl, I2.addN nLH nLb nLg nNL e1 e2, by rw [upd_ne nlbL]; exact hlb2⟩)
      have hnz : z ∉ wds ls := by simpa using hnz
      refine ⟨_, rfl, .inl ⟨rfl, _, SqL.of I2.nm⟩, _, rfl, Nm, _, _, rfl, rfl, I2.nm, by rw [List.length_map]; exact Nat.lt_of_le_of_lt lnm (by decide), ?_⟩
      have tk3 : TK G2 (upd G2 Nm (.lst ((wds ls).map V.str ++ [.str z]))) := .upd I2.nm (fun _ e => by cases e)
      have hN3 : (upd G2 Nm (.lst ((wds ls).map V.str ++ [.str z]))) Nm = some (.lst ((wds ls).map V.str ++ [.str z])) := upd_same
      have hL3 : (upd G2 Nm (.lst ((wds ls).map V.str ++ [.str z]))) Lv = some (.lst vs) := by rw [upd_ne (Ne.symm nNL)]; exact e1
      have hl3 : (upd G2 Nm (.lst ((wds ls).map V.str ++ [.str z]))) lb = some (.lst (nN (benL h 0))) := by rw [upd_ne nlbN]; exact hlb2
      have bl3 := I2.bl.put (o := .lst ((wds ls).map V.str ++ [.str z])) nNH
      have hB3' := I2.hb.put (o := .lst ((wds ls).map V.str ++ [.str z])) nNb nNg
      have e3 := Paired.mapP e2 fun _ _ r => r.tk tk3
      generalize upd G2 Nm (.lst ((wds ls).map V.str ++ [.str z])) = G3 at *
      refine ⟨_, rfl, .inl ⟨rfl, _, SqL.of hL3⟩, _, rfl, _, rfl, b, g, rfl, hB3', fun G4 r bl4 hB4' r0 r1 => ⟨by show 2 ≤ sizeLine; decide, fun p np => ?_⟩⟩
      have tk4 := hB3'.tk bl4
      have s5 := same_upd (o := HO.tup [.str z, .int r]) np
      have hp5 : (upd G4 p (.tup [.str z, .int r])) p = some (.tup [.str z, .int r]) := upd_same
      have hL5 := s5 _ _ (bl4 _ _ (by simpa using nLb) hL3)
      have hN5 := s5 _ _ (bl4 _ _ (by simpa using nNb) hN3)
      have hl5 := s5 _ _ (bl4 _ _ (by simpa using nlbb) hl3)
      have tk5 := tk4.trans (.same s5)
      exact ⟨Lv, _, _, rfl, rfl, hL5, lvs, _, _, _, rfl, LvI.addS ((bl3.trans bl4).trans (.same s5)) (hB4'.same s5) nLH nLb nLg nNL hL5 (Paired.mapP e3 fun _ _ r => r.tk tk5) hN5 I2.len I2.gl I2.nd hnz hz r0 r1 hp5, by rw [upd_ne nlbL]; exact hl5⟩
    · rintro σ G ⟨y5, y6, ls, rfl, I, hlb⟩
      rw [nN_len, ben_len] at I
      obtain ⟨vs, e1, e2⟩ := I.vs
      refine ⟨Nat.zero_le _, fun Nl nNl => ?_⟩
      have s6 := same_upd (o := HO.lst []) nNl
      have nNlb := I.hb.nb nNl
      have nNlg := I.hb.ng nNl
      have nNlH := I.bl.nw nNl (by simpa using nNlb)
      have nLN : Lv ≠ Nl := fun e => by rw [e, nNl] at e1; cases e1
      have hN6 : (upd G Nl (.lst [])) Nl = some (.lst []) := upd_same
      have D0 : NdI b g Lv Nl H (upd G Nl (.lst [])) h ls [] 1 0 := ⟨I.bl.trans (.same s6), I.hb.same s6, ⟨vs, s6 _ _ e1, Paired.mapP e2 fun _ _ r => r.tk (.same s6)⟩, ⟨[], hN6, .nil⟩, by simp, rfl, by simp, Nat.zero_le _⟩
      have hL6 := s6 _ _ e1
      have lvl : vs.length = 2 ^ h := by rw [Paired.len e2, I.len]
      generalize upd G Nl (.lst []) = G6 at *
      refine ⟨_, rfl, Lv, vs, rfl, .inl (.of hL6), ?_⟩
      rw [lvl]
      refine ⟨_, rfl, _, _, rfl, rfl, _, _, rfl, ⟨by decide, by decide, by omega, by omega⟩, ?_⟩
      refine for_it (walk_range (lo := 1)) (fun i σ G => ∃ y5 y6 y9 y10 y11 y12 ns Mi, σ = [some (.ref b), some (.int (m : Nat)), some (.int (h : Nat)), some (.ref Lv), some (.ref Nm), y5, y6, some (.ref Nl), some (.int Mi), y9, y10, y11, y12] ∧ Mi = ((2 ^ (h - i) : Nat) : Int) ∧ NdI b g Lv Nl H G h ls ns (i + 1) 0) ⟨_, _, _, _, _, _, _, _, rfl, rfl, D0⟩ (fun i σ G _ hG => trivial) ?_ ?_
      · rintro i y σ G1 G2 hi ⟨y5, y6, y9, y10, y11, y12, ns, Mi, rfl, hMi, D1⟩ ⟨rfl, hy⟩
        have hi : i < h := by omega
        obtain rfl : y = .int ((i + 1 : Nat) : Int) := hy.trans (congrArg V.int (by omega))
        obtain ⟨M, hM⟩ : ∃ M, M = 2 ^ (h - (i + 1)) := ⟨_, rfl⟩
        have hM2 : Mi = 2 * (M : Int) := by
          rw [hMi, hM, show h - i = (h - (i + 1)) + 1 by omega, Nat.pow_succ]
          omega
        have hM3 : M ≤ 128 := by
          rw [hM]
          exact Nat.le_trans (Nat.pow_le_pow_right (by decide) (show h - (i + 1) ≤ 7 by omega)) (by decide)
        have eM : Mi / 2 = ((M : Nat) : Int) := by omega
        refine ⟨_, rfl, _, _, rfl, rfl, ⟨by decide, by decide⟩, ?_⟩
        refine ⟨_, rfl, Mi / 2, rfl, by omega, by omega, ?_⟩
        refine for_it (walk_range (lo := 0)) (fun j σ G => ∃ y5 y10 y11 y12 ns, σ = [some (.ref b), some (.int (m : Nat)), some (.int (h : Nat)), some (.ref Lv), some (.ref Nm), y5, y6, some (.ref Nl), some (.int (Mi / 2)), some (.int ((i + 1 : Nat) : Int)), y10, y11, y12] ∧ NdI b g Lv Nl H G h ls ns (i + 1) j) ⟨_, _, _, _, _, rfl, D1⟩ (fun i σ G _ hG => trivial) ?_ ?_
        · rintro j y σ G3 G4 hj ⟨y5, y10, y11, y12, ns, rfl, D3⟩ ⟨rfl, hy⟩
          have hj : j < M := by omega
          obtain rfl : y = .int ((j : Nat) : Int) := hy.trans (congrArg V.int (by omega))
          refine ⟨_, rfl, b, g, 2, rfl, D3.hb, by decide, by decide, fun G5 r bl5 hB5 r0 r1 => ⟨rfl, _, rfl, ?_⟩⟩
          have D5 := D3.step bl5 hB5 nLb nNlb
          refine ite2 (fun _ => ?_) (fun _ => ⟨_, _, _, _, _, rfl, D5.weak⟩)
          refine ⟨_, rfl, _, rfl, by show 2 ≤ sizeLine; decide, fun p np => ⟨p, i + 1, j, rfl, upd_same, by omega, by omega, fun G6 l2 s6 nl2 hl2 => ⟨l2, rfl, ⟨_, SqL.of hl2⟩, fun D nD => ?_⟩⟩⟩
          have s56 := (same_upd (o := HO.tup [.int ((i + 1 : Nat) : Int), .int ((j : Nat) : Int)]) np).trans s6
          have nl25 : G5 l2 = none := (same_upd (o := HO.tup [.int ((i + 1 : Nat) : Int), .int ((j : Nat) : Int)]) np).free nl2
          have nl2b := hB5.nb nl25
          have D6 := D5.step (.same s56) (hB5.same s56) nLb nNlb
          obtain ⟨vs, e1, e2⟩ := D6.vs
          have bl8 : (benL (i + 1) j).length ≤ 256 := by rw [ben_len]; exact pow8 (by omega)
          refine lcB (walk_list (xs := nN (benL (i + 1) j))) (fun q acc => ∃ js, acc = nN js ∧ js.Sublist ((benL (i + 1) j).take q) ∧ ∀ x ∈ js, ∃ z, ls[x]? = some (some z)) (Nat.lt_of_le_of_lt (show (nN (benL (i + 1) j)).length ≤ 256 by rw [nN_len]; exact bl8) (by decide)) nD D6.hb (fun G' bl' _ => .of (bl' _ _ (by simpa using nl2b) hl2)) ⟨[], rfl, by simp, by simp⟩ ?_ ?_
          · rintro q x G7 G8 Q' N' acc hq bl7 hB7 ⟨js, rfl, hsub, hjs⟩ ⟨rfl, hx⟩ hy hn
            obtain ⟨c, hc, rfl⟩ := nN_at hx
            have hcl : c < ls.length := by
              rw [I.len]
              exact ben_lt (List.mem_of_getElem? hc) (by rw [← hM]; exact hj) (by omega)
            obtain ⟨v, hv, hl⟩ := Paired.at e2 (List.getElem?_eq_getElem hcl)
            refine ⟨rfl, _, rfl, _, rfl, Lv, vs, _, v, rfl, rfl, .of (bl7 _ _ (by simpa using nLb) e1), atI_nat hv, rfl, _, rfl, ?_⟩
            rw [nonN, lf_non hl]
            cases el : ls[c] with
            | none => exact iteF (hn ⟨js, rfl, sub_skip hsub hc, hjs⟩ _ .refl hB7)
            | some z =>
              refine iteT ⟨_, rfl, hy _ _ .refl hB7 ⟨js ++ [c], by unfold nN; rw [List.map_append]; rfl, sub_snoc hsub hc, fun x hx => ?_⟩⟩
              rcases List.mem_append.mp hx with w | w
              · exact hjs x w
              · rw [List.mem_singleton.mp w]
                exact ⟨z, by rw [List.getElem?_eq_getElem hcl, el]⟩
          · rintro G8 acc bl8 hB8 hD8 ⟨js, rfl, hsub, hjs⟩ hlen
            have nDb := D6.hb.nb nD
            have nDH := D6.bl.nw nD (by simpa using nDb)
            refine ⟨_, rfl, D, rfl, ⟨_, SqL.of hD8⟩, fun D2 nD2 => ?_⟩
            refine lcB (walk_list (xs := nN js)) (fun q acc => ∃ ks, acc = nN ks ∧ ks.Sublist (js.take q)) (Nat.lt_of_le_of_lt (show (nN js).length ≤ 256 by rw [nN_len] at hlen ⊢; rw [nN_len] at hlen; omega) (by decide)) nD2 hB8 (fun G' bl' _ => .of (bl' _ _ (by simpa using nDb) hD8)) ⟨[], rfl, by simp⟩ ?_ ?_
            · rintro q x G9 G10 Q' N' acc hq bl9 hB9 ⟨ks, rfl, hsub2⟩ ⟨rfl, hx⟩ hy hn
              obtain ⟨c, hc, rfl⟩ := nN_at hx
              refine ⟨rfl, _, rfl, b, g, 4, rfl, hB9, by decide, by decide, fun G11 r bl11 hB11 r0 r1 => ⟨rfl, _, rfl, ?_⟩⟩
              refine ite2 (fun _ => ⟨_, rfl, hy _ _ bl11 hB11 ⟨ks ++ [c], by unfold nN; rw [List.map_append]; rfl, sub_snoc hsub2 hc⟩⟩) (fun _ => hn ⟨ks, rfl, sub_skip hsub2 hc⟩ _ bl11 hB11)
            · rintro G9 acc bl9 hB9 hD9 ⟨ks, rfl, hsub2⟩ _
              refine .inl ⟨D2, _, rfl, .of hD9, fun t nt => ?_⟩
              have st := same_upd (o := HO.tup (nN ks)) nt
              have ht : (upd G9 t (.tup (nN ks))) t = some (.tup (nN ks)) := upd_same
              have D10 := D6.step ((bl8.trans bl9).trans (.same st)) (hB9.same st) nLb nNlb
              generalize upd G9 t (.tup (nN ks)) = G10 at *
              obtain ⟨ws, f1, f2⟩ := D10.ws
              refine ⟨_, rfl, .inl ⟨rfl, _, SqL.of f1⟩, _, rfl, _, rfl, by show 2 ≤ sizeLine; decide, fun p1 np1 => ?_⟩
              have s11 := same_upd (o := HO.tup [.int ((i + 1 : Nat) : Int), .int ((j : Nat) : Int)]) np1
              have hp1 : (upd G10 p1 (.tup [.int ((i + 1 : Nat) : Int), .int ((j : Nat) : Int)])) p1 = some (.tup [.int ((i + 1 : Nat) : Int), .int ((j : Nat) : Int)]) := upd_same
              have D11 := D10.step (.same s11) (D10.hb.same s11) nLb nNlb
              have ht11 := s11 _ _ ht
              refine ⟨_, rfl, b, g, rfl, D11.hb, fun G12 r bl12 hB12 r0 r1 => ⟨_, rfl, by show 3 ≤ sizeLine; decide, fun p2 np2 => ?_⟩⟩
              have tk12 := D11.hb.tk bl12
              have D12 := D11.step bl12 hB12 nLb nNlb
              have s13 := same_upd (o := HO.tup [.ref p1, .int r, .ref t]) np2
              have hp2 : (upd G12 p2 (.tup [.ref p1, .int r, .ref t])) p2 = some (.tup [.ref p1, .int r, .ref t]) := upd_same
              have D13 := D12.step (.same s13) (hB12.same s13) nLb nNlb
              obtain ⟨ws3, h1, h2⟩ := D13.ws
              have sub := hsub2.trans ((List.take_sublist _ _).trans (hsub.trans (List.take_sublist _ _)))
              refine ⟨Nl, ws3, _, rfl, rfl, h1, Nat.lt_of_le_of_lt (show ws3.length ≤ 2000 by rw [Paired.len h2]; have := D13.nl; omega) (by decide), _, _, _, _, _, rfl, D13.add (n := ((i + 1, j), (r, ks))) nNlH nNlb nNlg nLN h1 h2 ⟨p2, p1, t, rfl, hp2, s13 _ _ (tk12.1 _ _ hp1), s13 _ _ (tk12.1 _ _ ht11)⟩ ⟨by show 1 ≤ i + 1; omega, by show i + 1 ≤ h; omega, by show j < 2 ^ (h - (i + 1)); rw [← hM]; exact hj, r0, r1, (ben_pw (i + 1) j).sublist sub, ?_, fun c hc => ⟨(ben_mem (sub.subset hc)).1, hjs c (((hsub2.trans (List.take_sublist _ _)).subset hc))⟩⟩ rfl rfl⟩
              have := sub.length_le
              rw [ben_len] at this
              exact Nat.le_trans this (pow8 (by omega))
        · rintro σ G3 ⟨y5, y10, y11, y12, ns, rfl, D3⟩
          have e : (Mi / 2).toNat = M := by omega
          have D3 := e ▸ D3
          exact ⟨_, _, _, _, _, _, _, _, rfl, eM.trans (by rw [hM]), D3.next (by omega) (by omega)⟩
      · rintro σ G7 ⟨y5, y6, y9, y10, y11, y12, ns, Mi, rfl, _, D7⟩
        have en : (((h : Nat) : Int) + 1 - 1).toNat = h := by omega
        obtain ⟨vs, e1, e2⟩ := D7.vs
        obtain ⟨ws, f1, f2⟩ := D7.ws
        refine ⟨_, rfl, _, rfl, Lv, vs, rfl, .of e1, fun la oo hoo nla => ?_⟩
        have s8 := same_upd (o := HO.frz oo (.tup vs)) nla
        refine ⟨_, rfl, .inl ⟨Nl, ws, rfl, .of (s8 _ _ f1), fun na nna => ⟨by show 3 ≤ sizeLine; decide, fun p np => ?_⟩⟩⟩
        have s9 := same_upd (o := HO.tup ws) nna
        have s10 := same_upd (o := HO.lst [.int (h : Nat), .ref la, .ref na]) np
        have s := s8.trans (s9.trans s10)
        have tk : TK G7 _ := .same s
        have npb := ((D7.hb.same s8).same s9).nb np
        refine q _ p la na h ls ns (D7.bl.trans (.same s)) (D7.hb.same s) ((D7.bl.trans (.same (s8.trans s9))).nw np (by simpa using npb)) upd_same ⟨vs, ⟨oo, hoo, s10 _ _ (s9 _ _ upd_same)⟩, Paired.mapP e2 fun _ _ r => r.tk tk⟩ ⟨ws, s10 _ _ upd_same, Paired.mapP f2 fun _ _ r => r.tk tk⟩ ⟨h8, I.len, I.gl, I.nd, D7.gn, D7.asc, ?_⟩
        have := D7.nl
        omega
end
end L2.My
end
section
set_option Elab.async false
set_option linter.all false
set_option maxRecDepth 100000
set_option maxHeartbeats 4000000
/-! tuple(reversed(a tuple)). -/
namespace L2.My
open PySem PySem.Spec PyProof.Rows RT
theorem rt_len : typeLookup (.type "reversed") "__len__" = pure none := by rw [typeLookup_type, builtinLookup_eq_fast]; kernel_rfl
theorem rt_hint : typeLookup (.type "reversed") "__length_hint__" = pure (some (.builtin "reversed.__length_hint__")) := by rw [typeLookup_type, builtinLookup_eq_fast]; kernel_rfl
theorem slot_rt_hint : Slot "reversed" "__length_hint__" "reversed.__length_hint__" :=
  .of (owner := "reversed") (n := "__length_hint__") (by rw [typeLookup_type, builtinLookup_eq_fast]; kernel_rfl) (by decide +kernel) (by decide +kernel) (by decide +kernel)
    (by first | exact .inl (by decide +kernel) | exact .inr (by decide +kernel)) (by rw [isSubtype_type]; kernel_rfl)
theorem entry_rt_hint : entryFor table "reversed.__length_hint__" = some Builtin.«reversed.__length_hint__» := entryFor_of_tree (by kernel_rfl)
theorem args_rt_hint (a : Value) : argsOk "reversed.__length_hint__" ⟨[a], []⟩ := by
  unfold argsOk; rw [signature?_of (id := "reversed.__length_hint__") (n := ['_', '_', 't', 'n', 'i', 'h', '_', 'h', 't', 'g', 'n', 'e', 'l', '_', '_']) (o := ['d', 'e', 's', 'r', 'e', 'v', 'e', 'r']) (by kernel_rfl) owner_rt]; kernel_rfl
theorem ty_rt_hint : typeOf (.builtin "reversed.__length_hint__") = pure (.type "method_descriptor") := by kernel_rfl
section
variable {prog : Program} {w : World} {A : Around} {E : Value → Shared → Prop} {s : Shared} {it t : Addr} {items : Array Value}
theorem fld_rt {Q : Value → Shared → Prop} {i : Int} (hit : IsRt s.heap it t i) (ht : IsTup s.heap t items) (hsz : items.size ≤ sizeLine) (hi : i < items.size) (h : ∀ u k, Q (.int (i + 1) u) { s with toks := k }) : wpAny (model prog w) A (call (.builtin "reversed.__length_hint__") [.ref it]) Q E s := by
  obtain ⟨o, ho, hc, hd⟩ := id hit
  refine wpAny_call_entry slot_rt_hint hit.typeIs entry_rt_hint ?_ (args_rt_hint _)
  unfold Builtin.«reversed.__length_hint__»
  refine wpAny_bind (wpAny_of_eq (a := Value.ref it) (by first | rfl | kernel_rfl) ?_)
  try dsimp only
  refine wpAny_bind (wpAny_field ho hd (x := .ref t) rfl ?_)
  try dsimp only
  rw [if_neg (show ¬ (Value.ref t == Value.none) = true from by simp)]
  have hz : (items.size : Int) < 2 ^ 63 := by
    have := line63
    omega
  refine wpAny_bind (len_tuple ht hz ?_)
  refine wpAny_bind (wpAny_of_eq (a := some ((items.size : Nat) : Int)) rfl ?_)
  try dsimp only
  refine wpAny_bind (wpAny_field (s := { s with toks := s.toks + 1 + 1 }) ho hd (x := rawInt i) rfl ?_)
  show wpAny _ _ (if ((items.size : Nat) : Int) < i + 1 then _ else _) _ _ _
  rw [if_neg (by omega)]
  unfold retInt
  refine wpAny_bind (wpAny_mkInt ?_)
  exact wpAny_pure ⟨_, rfl, h _ _⟩
theorem hint_rt {Q : Bool → Shared → Prop} {i : Int} (hit : IsRt s.heap it t i) (ht : IsTup s.heap t items) (hsz : items.size ≤ sizeLine) (h0 : -1 ≤ i) (hi : i < items.size) (h : ∀ b k, Q b { s with toks := k }) : wpAny (model prog w) A (Builtin.List.listLengthHint (.ref it)) Q E s := by
  have hT := hit.typeIs
  unfold Builtin.List.listLengthHint
  refine wpAny_bind (wpAny_specialOf hT rt_len ?_)
  show wpAny _ A (specialOf (Value.ref it) (Str.ofString "__length_hint__") >>= _) _ _ _
  refine wpAny_bind (wpAny_specialOf hT rt_hint ?_)
  generalize hid : ("reversed.__length_hint__" : String) = id0
  wp_delta
  rw [show splitId id0 = some ("reversed", "__length_hint__") from by subst hid; decide +kernel]
  subst hid
  refine wpAny_bind (wpAny_isInstance (b := true) hT (by rw [isSubtype_type]; kernel_rfl) ?_)
  refine wpAny_ite_split (fun hab => absurd hab (by decide)) (fun _ => ?_)
  refine wpAny_ite_split (fun hab => absurd hab (by decide +kernel)) (fun _ => ?_)
  refine wpAny_bind (wpAny_rule ?_)
  refine wpAny_bind (wpAny_of_eq (a := (Value.builtin "reversed.__length_hint__", [Value.ref it])) (by unfold bindSpecial; rw [ty_rt_hint]; rfl) ?_)
  try dsimp only
  refine wpAny_bind (wpAny_attempt (fld_rt hit ht hsz hi fun u k => ?_))
  try dsimp only
  refine wpAny_bind (wpAny_of_eq (a := some (i + 1)) rfl ?_)
  try dsimp only
  have hb : i + 1 ≤ sizeLine := by omega
  rw [sizeLine_eq] at hb
  refine wpAny_ite_split (fun hab => absurd hab (by simp [Builtin.List.listFitsIndex]; omega)) (fun _ => ?_)
  refine wpAny_ite_split (fun hab => absurd hab (by omega)) (fun _ => ?_)
  refine wpAny_ite_split (fun hab => absurd hab (by simp [Builtin.List.listTooLong]; omega)) (fun _ => ?_)
  exact wpAny_pure (h _ _)
theorem walks_rt (hh : A.handled = none) (hne : t ≠ it) (hsz : items.size ≤ sizeLine) :
    Walks prog w A it [it, t] [it] items.size (fun i v => items[items.size - 1 - i]? = some v) (fun i h => i ≤ items.size ∧ IsRt h it t ((items.size : Int) - 1 - (i : Int)) ∧ IsTup h t items) where
  sub := fun b hb => by simp at hb; simp [hb]
  frame := fun _ h h' x hk => ⟨x.1, x.2.1.at fun o e => hk it (by simp) o e, by
    obtain ⟨o, ho, r⟩ := x.2.2
    exact ⟨o, hk t (by simp) o ho, r⟩⟩
  item := fun i s Q E hi x hQ => by
    have e : (items.size : Int) - 1 - (i : Int) = ((items.size - 1 - i : Nat) : Int) := by omega
    have hit := x.2.1
    rw [e] at hit
    have hx : items[items.size - 1 - i]? = some (items[items.size - 1 - i]'(by omega)) := Array.getElem?_eq_getElem (by omega)
    refine next_rt_item hit x.2.2 hx hsz fun h' hit' hs' => ?_
    have e2 : ((items.size - 1 - i : Nat) : Int) - 1 = (items.size : Int) - 1 - ((i + 1 : Nat) : Int) := by omega
    rw [e2] at hit'
    obtain ⟨o, ho, r⟩ := x.2.2
    exact hQ _ h' _ hx ⟨hi, hit', o, (hs'.2 t hne).trans ho, r⟩ fun b o hb eo => (hs'.2 b (fun h => hb (by simp [h]))).trans eo
  done := fun s Q E x hQ => by
    have e : (items.size : Int) - 1 - (items.size : Int) = -1 := by omega
    have hit := x.2.1
    rw [e] at hit
    exact next_rt_end hh hit fun h' he' => hQ h' s.toks fun b o hb eo => he' b o (fun h => hb (by simp [h])) eo
  self := fun _ _ _ _ x hQ => iter_rt x.2.1 hQ
theorem gather_rt {Q : List Value → Shared → Prop} (hh : A.handled = none) (hit : IsRt s.heap it t ((items.size : Int) - 1)) (hl : IsTup s.heap t items) (hne : t ≠ it) (hn : items.size ≤ sizeLine)
    (hQ : ∀ (h' : Heap) (tk : Nat) (acc : Array Value), (∀ b o, b ≠ it → s.heap.get? b = some o → h'.get? b = some o) → ItemsOf (fun i v => items[items.size - 1 - i]? = some v) acc items.size → Q acc.toList { s with heap := h', toks := tk }) :
    wpAny (model prog w) A (collect (.ref it)) Q E s := by
  have W := (walks_rt (prog := prog) (w := w) (A := A.in1) (items := items) hh hne hn).toS
  have hi1 := Heap.lt_size (id hit).choose_spec.1
  have ht1 := hl.lt
  have out : s.heap.objs.size ∉ [it, t] := by
    simp only [List.mem_cons, List.not_mem_nil, or_false, not_or]
    exact ⟨Nat.ne_of_gt hi1, Nat.ne_of_gt ht1⟩
  unfold collect
  refine wpAny_bind (wpAny_runValue (codeAny_builtin F.entry_proto_collect ?_))
  rw [Around.under_plainId F.plain_proto_collect _]
  show wpAny _ A.in1 (newList [] >>= fun l' => again (.builtin "list.__iadd__" ⟨[l', .ref it], []⟩)) _ _ s
  refine wpAny_bind (wpAny_newObj_type ?_)
  refine wpAny_pure ⟨plainId_quiet F.plain_list_iadd _, codeAny_builtin F.entry_list_iadd ?_⟩
  rw [Around.under_plainId F.plain_list_iadd _]
  have hS : (s.heap.push { cls := .type "list", data := .seq ([] : List Value).toArray }).get? s.heap.objs.size = some { cls := .type "list", data := .seq ([] : List Value).toArray } := Heap.get?_push_size _ rfl
  have hit1 := hit.at (h' := s.heap.push { cls := .type "list", data := .seq ([] : List Value).toArray }) fun o e => Heap.get?_push_of_some _ e
  have hl1 := hl.push { cls := .type "list", data := .seq ([] : List Value).toArray }
  have hT : ({ s with heap := s.heap.push { cls := .type "list", data := .seq ([] : List Value).toArray } } : Shared).TypeIs (.ref it) "reversed" := IsRt.typeIs (s := { s with heap := s.heap.push { cls := .type "list", data := .seq ([] : List Value).toArray } }) hit1
  have other : Builtin.List.listSameRef (.ref s.heap.objs.size) (.ref it) = false := by simp [Builtin.List.listSameRef, Nat.ne_of_gt hi1]
  show wpAny _ A.in1 (Builtin.List.listExtendWith (.ref s.heap.objs.size) (.ref it) (.ref s.heap.objs.size)) _ _ _
  unfold Builtin.List.listExtendWith
  refine wpAny_bind (wpAny_typeOf hT ?_)
  rw [if_neg (by rw [other]; decide)]
  refine wpAny_bind (iter_rt (s := { s with heap := s.heap.push { cls := .type "list", data := .seq ([] : List Value).toArray } }) hit1 ?_)
  have e0 : ((items.size : Nat) : Int) - 1 - ((0 : Nat) : Int) = (items.size : Int) - 1 := by omega
  refine wpAny_bind (wpAny_holding (hint_rt hit1 hl1 hn (by omega) (by omega) fun b k => ?_))
  dsimp only
  refine wpAny_ite_split (fun _ => ?_) (fun _ => ?_)
  · refine wpAny_bind (wpAny_rule ?_)
    refine wpAny_bind ?_
    show wpAny _ A.in1 (updateSeq s.heap.objs.size (·.push .none) >>= fun _ => updateSeq s.heap.objs.size (·.pop)) _ _ _
    refine wpAny_bind (wpAny_updateSeq hS rfl ?_)
    have hS2 := Heap.get?_update_self (Obj.mapSeq (·.push Value.none)) hS rfl
    refine wpAny_updateSeq (hz := by seq_fits) hS2 rfl ?_
    have hS3 := Heap.get?_update_self (Obj.mapSeq (·.pop)) hS2 rfl
    have oth : ∀ p o, p ≠ s.heap.objs.size → (s.heap.push { cls := .type "list", data := .seq ([] : List Value).toArray }).get? p = some o →
        (((s.heap.push { cls := .type "list", data := .seq ([] : List Value).toArray }).update s.heap.objs.size (Obj.mapSeq (·.push Value.none))).update s.heap.objs.size (Obj.mapSeq (·.pop))).get? p = some o :=
      fun p o hb e => (Heap.get?_update_other _ _ (Ne.symm hb)).trans ((Heap.get?_update_other _ _ (Ne.symm hb)).trans e)
    refine wpAny_pure ⟨plainId_quiet F.plain_extend_loop _, codeAny_extend_loopS W hn _ out _ items.size 0 _ _ _ rfl (Nat.zero_le _) ⟨Nat.zero_le _, by rw [e0]; exact hit1.at fun o e => oth _ o (Nat.ne_of_lt hi1) e, ?_⟩ hS3 (ItemsOf.nil _) fun s' acc' c' hm hS' hacc => ?_⟩
    · obtain ⟨o, ho, r⟩ := hl1
      exact ⟨o, oth _ o (Nat.ne_of_lt ht1) ho, r⟩
    show wpAny _ A (load s.heap.objs.size >>= _) _ _ s'
    refine wpAny_bind (wpAny_load hS' ?_)
    refine wpAny_pure ?_
    rw [Moved.eq_with hm]
    refine hQ s'.heap s'.toks acc' (fun b o hb e => hm.heap b o (fun hmem => ?_) (oth b o (Nat.ne_of_lt (Heap.lt_size e)) (Heap.get?_push_of_some _ e))) hacc
    rcases List.mem_cons.mp hmem with e' | hmem
    · exact absurd (Heap.lt_size e) (by rw [e']; exact Nat.lt_irrefl _)
    · exact hb (List.mem_singleton.mp hmem)
  · refine wpAny_pure ⟨plainId_quiet F.plain_extend_loop _, codeAny_extend_loopS W hn _ out _ items.size 0 _ _ _ rfl (Nat.zero_le _) ⟨Nat.zero_le _, by rw [e0]; exact hit1, hl1⟩ hS (ItemsOf.nil _) fun s' acc' c' hm hS' hacc => ?_⟩
    show wpAny _ A (load s.heap.objs.size >>= _) _ _ s'
    refine wpAny_bind (wpAny_load hS' ?_)
    refine wpAny_pure ?_
    rw [Moved.eq_with hm]
    refine hQ s'.heap s'.toks acc' (fun b o hb e => hm.heap b o (fun hmem => ?_) (Heap.get?_push_of_some _ e)) hacc
    rcases List.mem_cons.mp hmem with e' | hmem
    · exact absurd (Heap.lt_size e) (by rw [e']; exact Nat.lt_irrefl _)
    · exact hb (List.mem_singleton.mp hmem)
theorem mk_rt {Q₁ : Value → Shared → Prop} (hh : A.handled = none) (hit : IsRt s.heap it t ((items.size : Int) - 1)) (hl : IsTup s.heap t items) (hne : t ≠ it) (hn : items.size ≤ sizeLine)
    (h : ∀ (h' : Heap) (tk : Nat) (acc : Array Value), (∀ b o, b ≠ it → s.heap.get? b = some o → h'.get? b = some o) → ItemsOf (fun i v => items[items.size - 1 - i]? = some v) acc items.size →
      Q₁ (.ref h'.objs.size) { s with heap := h'.push { cls := .type "tuple", data := .seq acc }, toks := tk }) :
    codeAny (model prog w) A (.call (.builtin "tuple.__new__") ⟨[.type "tuple", .ref it], []⟩) (wants Q₁ E) s := by
  refine codeAny_of_tree ?_
  show wpAny _ A.in1 (do checkBuiltinCall "tuple.__new__" ⟨[.type "tuple", .ref it], []⟩; again (.builtin "tuple.__new__" ⟨[.type "tuple", .ref it], []⟩)) _ _ s
  refine wpAny_bind (wpAny_of_eq (F.newCall_tuple_1 _) (wpAny_pure ⟨plainId_quiet F.plain_tuple_new _, codeAny_builtin F.entry_tuple_new ?_⟩))
  rw [Around.under_plainId F.plain_tuple_new _]
  have hsub := sub_tuple_self
  have hinit := init_tuple_lookup
  have hmh := madeHere_tuple
  have hTI : s.TypeIs (.ref it) "reversed" := hit.typeIs
  have hh1 : A.in1.handled = none := hh
  wp_walk using wpAny_typeOf hTI, gather_rt (A := A.in1) hh1 hit hl hne hn
  intro h' tk acc hk hacc
  show wpAny _ _ (Builtin.Tuple.tupleExact acc.toList.toArray >>= fun v => ret v) _ _ _
  unfold Builtin.Tuple.tupleExact
  refine wpAny_bind (wpAny_newObj_type ?_ (by show acc.toList.toArray.size ≤ sizeLine; simp only [Array.toArray_toList]; rw [hacc.1]; exact hn))
  refine wpAny_pure ?_
  rw [show acc.toList.toArray = acc by simp]
  exact h h' tk acc hk hacc
theorem tup_rt {Q : Value → Shared → Prop} (hh : A.handled = none) (hit : IsRt s.heap it t ((items.size : Int) - 1)) (hl : IsTup s.heap t items) (hne : t ≠ it) (hn : items.size ≤ sizeLine)
    (hQ : ∀ (h' : Heap) (tk : Nat) (acc : Array Value), (∀ b o, b ≠ it → s.heap.get? b = some o → h'.get? b = some o) → ItemsOf (fun i v => items[items.size - 1 - i]? = some v) acc items.size →
      Q (.ref h'.objs.size) { s with heap := h'.push { cls := .type "tuple", data := .seq acc }, toks := tk }) :
    wpAny (model prog w) A (call (.type "tuple") [.ref it]) Q E s := by
  refine callType_codes (Q₁ := fun obj s₁ => s₁.TypeIs obj "tuple" ∧ Q obj s₁) F.called_tuple (F.typeCall_tuple_1 _) F.entry_object_init
    (mk_rt (A := A.in1) hh hit hl hne hn fun h' tk acc hk hacc => ⟨⟨_, Heap.get?_push_size _ rfl, rfl⟩, hQ h' tk acc hk hacc⟩) fun obj s₁ h₁ => ?_
  exact ⟨h₁.1, F.args_object_init_2 obj _, object_init_meets F.called_tuple.init.lookup F.called_tuple.made (by decide) prog w A.in1 _ s₁ ⟨h₁.1, rfl, h₁.2⟩⟩
end
/-- tuple(reversed(x)), x a tuple: a new tuple -/
def tTupRevT (K : PySem.W.Frag) (te : TE) : TE := fun σ H Q => te σ H fun v H1 => ∃ (a : Addr) (xs : List V), v = .ref a ∧ SqT K H1 a xs ∧ ∀ q, H1 q = none → Q (.ref q) (upd H1 q (.tup xs.reverse))
theorem pe_tupRevT {X : Cx} {e : Expr} {te : TE} {p p2 pos pos2 : Pos} (hc : X.calm = true) (hg : Gl X "tuple") (hm : X.mg "tuple" = none) (hg2 : Gl X "reversed") (hm2 : X.mg "reversed" = none) (he : PE X e te)
    (hs : starEach [e] X.env = (false, eval e X.env) :: starEach [] X.env := by rfl)
    (hs2 : starEach [.Call (.Name "reversed" p2) [e] [] pos2] X.env = (false, eval (.Call (.Name "reversed" p2) [e] [] pos2) X.env) :: starEach [] X.env := by rfl) :
    PE X (.Call (.Name "tuple" p) [.Call (.Name "reversed" p2) [e] [] pos2] [] pos) (tTupRevT X.K te) := by
  refine ⟨fun pins s σ H Q I h => ?_⟩
  refine Call_ (ld_blt I hg hm boot_tuple (PyProof.Rows.callWith_type1 (args_cons (Call_ (ld_blt I hg2 hm2 PyProof.Rows.boot_reversed (PyProof.Rows.callWith_type1 (args_cons (thn (he.run pins s σ H _ I h) fun u s1 ⟨v, H1, I1, r1, q1⟩ => args_nil ?_) hs) hs rfl))) hs2) hs2 rfl))
  obtain ⟨a, xs, ev, hq, q⟩ := q1
  subst ev
  obtain rfl : u = Value.ref a := r1
  obtain ⟨its, rv, p', hz⟩ := I1.tuple hq
  have hn : its.toArray.size ≤ sizeLine := by rw [List.size_toArray, ← rv.length]; exact hz
  have hl63 := line63
  refine call_reversed_tup p' (fun A E Q k => len_tuple p' (by omega) k) (args_nil ?_)
  have k0 : ∀ b o, s1.heap.get? b = some o → (s1.heap.push (rtObj a ((its.toArray.size : Int) - 1))).get? b = some o := fun b o e => Heap.get?_push_of_some _ e
  have I2 : Inv X pins σ H1 { s1 with heap := s1.heap.push (rtObj a ((its.toArray.size : Int) - 1)), toks := s1.toks + 1 + 1 } := I1.kept (t' := s1.toks + 1 + 1) k0
  obtain ⟨f0, f1, f2, f3, f4, f5⟩ := I1.fpOk (H' := H1) (b := s1.heap.objs.size) (Nat.le_refl _) (I1.hok.fresh (Nat.le_refl _))
  have hne : a ≠ s1.heap.objs.size := Nat.ne_of_lt p'.lt
  refine tup_rt (s := { s1 with heap := s1.heap.push (rtObj a ((its.toArray.size : Int) - 1)), toks := s1.toks + 1 + 1 }) (I1.ok.hd hc) ⟨_, Heap.get?_push_size _ rfl, rfl, rfl⟩ (p'.push _) hne hn fun h' tk acc hk hi => ?_
  have I3 : Inv X pins σ H1 { s1 with heap := h', toks := tk } := I2.turned (t' := tk) (fun b o hb e => hk b o hb e) f0 f1 f3 f4 f5
  refine ⟨.ref h'.objs.size, upd H1 h'.objs.size (.tup xs.reverse), I3.laid (t' := tk) (fun c o e => Heap.get?_push_of_some _ e) (Nat.le_refl _) (show ObjOk X.prog X.w _ _ _ (.tup xs.reverse) from ⟨by rw [List.length_reverse]; exact hz, acc.toList, vals_rev rv hi, ?_⟩), rfl, q _ (I3.hok.fresh (Nat.le_refl _))⟩
  rw [Array.toArray_toList]
  exact IsTup.new _ _
end L2.My
end
section
set_option Elab.async false
set_option linter.all false
set_option maxRecDepth 100000
set_option maxHeartbeats 4000000
/-! A law that knows that nothing is being shown when it is called: so it may ask for repr. -/
namespace L2.My
open PySem PySem.Spec PyProof.Rows LamX
/-- the promise of a def that is called while nothing is being shown -/
structure FnOkG (P : Program) (w : World) (K : PySem.W.Frag) (mg : Str → Option Value) (base : Heap) (k : Nat) (f : Addr) (fd : FuncData) (ps : List Str) (sp : Sp) : Prop where
  len : ∀ vs H Q E, sp vs H Q E → vs.length = ps.length
  run : ∀ (A : Around) (outer : List Env) (s : Shared) (H : Hp) (args : Args) (us : List Value) (vs : List V) (Q : VK) (E : XK), Room k A → A.guards = some [] → Env0 P w K mg base A outer s H → BindsTo s fd args (ps.zip us) → Vals vs us → sp vs H Q E →
    codeAny (model P w) A (.call (.ref f) args) (CR CX0 outer P w H s Q E) s
theorem fun_okG {P : Program} {w : World} {K : PySem.W.Frag} {mg : Str → Option Value} {base : Heap} {x qual : Str} {st : Stmt} {f : Addr} {fd : FuncData} {N ps : List Str} {k : Nat} {sp : Sp} (F : Fun K x qual st f fd) (S : FnScope N ps (defScope st)) (len : ∀ vs H Q E, sp vs H Q E → vs.length = ps.length)
    (hbody : ∀ (cdv : Value) (A : Around) (outer : List Env) (s : Shared) (H : Hp) (vs : List V) (Q : VK) (E : XK), Room k (A.deeper (envOfC qual (defScope st) s.heap.objs.size f cdv)) → A.guards = some [] → sp vs H Q E →
      ∃ t, PSs (cxOf CX0 P w K mg base N qual (defScope st) f cdv A outer s H E).nox (defBody st) t ∧ t { nx := fun _ H' => Q .non H', rt := Q } (start N vs) H) : FnOkG P w K mg base (k + 1) f fd ps sp := by
  obtain ⟨oc, od, kV, doc, pm, an, cdv, ct, osl, rfl, lk, hcd⟩ := F.ex
  refine ⟨len, fun A outer s H args us vs Q E hr hgd e0 hb r hsp => ?_⟩
  have keep : ∀ b o, base.get? b = some o → s.heap.get? b = some o := fun b o e => (e0.bs b o e).1
  have KX : K.In s.heap := e0.mod.kin.keeps keep
  refine codeAny_call_function hr.depth (KX _ _ lk) rfl S.co S.gen rfl (PySem.W.codeRec_of KX hcd) (hb _ _ _ _ ?_)
  refine wpAny_newFunctionEnv_cells S.kind (fun ⟨n, v⟩ hy => (S.par n (List.of_mem_zip hy).1).imp_right fun q => ⟨q, PySem.W.cellsFrom_some _ _ _ (.inl q)⟩) fun env he s1 z => ?_
  subst he
  refine ⟨(e0.mod.nolimit.keeps keep).keeps z.toInCall.keep, codeAny_func ?_⟩
  obtain ⟨t, ht, hq⟩ := hbody cdv A outer s H vs Q E (hr.deeper _) hgd hsp
  refine wpAny_mono (ht.nox.run [] s1 (start N vs) H _ (inv_start S hr.hd e0 (len _ _ _ _ hsp) r z) hq) (fun fl s' hs => ?_) fun e s' hs => hs
  cases fl with
  | ret u => exact let ⟨v, _, H', J, rv, q⟩ := hs; ⟨v, H', J.os, J.bare, J.base, J.hok, rv, q⟩
  | next => exact let ⟨_, H', J, q⟩ := hs; ⟨V.non, H', J.os, J.bare, J.base, J.hok, rfl, q⟩
  | brk => exact let ⟨_, _, _, q⟩ := hs; q.elim
  | cont => exact let ⟨_, _, _, q⟩ := hs; q.elim
/-- such a law, called by the caller, from a heap in which nothing but its script may be tracked -/
theorem law_callG {P : Program} {w : World} {K : PySem.W.Frag} {mg mb : Str → Option Value} {k : Nat} {fa a : Addr} {fd : FuncData} {x : Str} {sp : Sp} {s₁ : Shared} {vs : List Value} {ns : List Int}
    (KX : K.In s₁.heap) (hns : s₁.heap.Ns mainGlobals mg) (hb : s₁.heap.Ns builtinsNs mb) (hbb : ∀ x : Str, x ≠ "__name__" → mb x = bootBuiltins x) (hlim : s₁.heap.NoLimit) (hg : s₁.gens = #[])
    (ha : s₁.heap.get? a = some { cls := .type "list", data := .seq vs.toArray }) (hi : IntsAre vs ns) (hl : ns.length ≤ sizeLine) (hr : Room k callerA)
    (F : ∀ base : Heap, K.In base → base.Ns mainGlobals mg → FnOkG P w K mg base k fa fd [x] sp) (hbind : ∀ (s : Shared) (u : Value), BindsTo s fd ⟨[u], []⟩ [(x, u)])
    (hsp : ∀ H : Hp, SqL K H a (ns.map V.int) → sp [.ref a] H (fun v _ => v = .bl true) fun _ _ _ => False) :
    codeAny (model P w) callerA (.call (.ref fa) ⟨[.ref a], []⟩) (fun r s' => r = .ok (.ret (.bool true)) ∧ OldK s₁.heap s'.heap ∧ s'.os = s₁.os ∧ AllBare s'.gens) s₁ := by
  have rv := vals_ints hi
  have core : ∀ H : Hp, (∀ b, H b = none ∨ ∃ o xs, H b = some (.frz o (.lst xs))) → SqL K H a (ns.map V.int) → HOk P w H s₁.heap → (∀ b, H b ≠ none → b = a ∧ K.lookup a = none) →
      codeAny (model P w) callerA (.call (.ref fa) ⟨[.ref a], []⟩) (fun r s' => r = .ok (.ret (.bool true)) ∧ OldK s₁.heap s'.heap ∧ s'.os = s₁.os ∧ AllBare s'.gens) s₁ := by
    intro H hO hS hok hA
    -- what is no script is no part of H
    have out : ∀ {b : Addr} {o : Obj}, s₁.heap.get? b = some o → (b = a → K.lookup a = none → False) → (hidT s₁.heap H).get? b = some o := fun {b o} e no => hidT_get e (by
      cases q : H b with
      | none => rfl
      | some u => exact (no (hA b (by rw [q]; simp)).1 (hA b (by rw [q]; simp)).2).elim)
    have nsK : ∀ {b : Addr} {m : Str → Option Value}, s₁.heap.Ns b m → (hidT s₁.heap H).Ns b m := fun {b m} ⟨o, es, ep, e, d, r⟩ => ⟨o, es, ep, out e (fun z _ => by
      rw [z, ha] at e
      cases e
      have d' : Data.seq vs.toArray _ = Data.dict es ep := d
      cases d'), d, r⟩
    have hKb : K.In (hidT s₁.heap H) := fun b o e => out (KX b o e) fun z h => by rw [z, h] at e; cases e
    have hM : L2.Mod K mg (hidT s₁.heap H) := ⟨hKb, nsK hns, ⟨mb, nsK hb, hbb⟩, let ⟨mc, h1, h2⟩ := hlim; ⟨mc, nsK h1, h2⟩⟩
    have e0 : Env0 P w K mg (hidT s₁.heap H) callerA [] s₁ H := ⟨rfl, hM, fun b o e => of_hidT e, Nat.le_of_eq (hidT_size _ _), trivial, fun b hb => absurd (show b ∈ ([] : List Addr) from hb) (by simp), hok, .of_eq hg⟩
    refine codeAny_mono ((F _ hKb (nsK hns)).run callerA [] s₁ H ⟨[.ref a], []⟩ [.ref a] [.ref a] _ _ hr rfl e0 (hbind s₁ (.ref a)) (.cons rfl .nil) (hsp H hS)) fun r s' h => ?_
    cases r with
    | error e => exact False.elim h
    | ok fl =>
      cases fl with
      | next => exact False.elim h
      | brk => exact False.elim h
      | cont => exact False.elim h
      | ret u =>
        obtain ⟨v, H', os, bare, un, hok', r', q⟩ := h
        obtain rfl : v = .bl true := q
        obtain rfl : u = Value.bool true := r'
        refine ⟨rfl, OldK.of_keep fun b o e => ?_, os, bare⟩
        rcases hO b with q | ⟨ob, xs, z⟩
        · exact un.keep b o e q (by intro z; exact absurd (show b ∈ ([] : List Addr) from z) (by simp)) (by simp)
        · obtain ⟨e1, _⟩ := hok b _ z
          obtain ⟨e2, _⟩ := hok' b _ (un.frzs b ob _ z)
          rw [e] at e1
          cases e1
          exact e2
  cases hk : K.lookup a with
  | some o =>
    have e := KX a o hk
    rw [ha] at e
    cases e
    exact core (fun _ => none) (fun _ => .inl rfl) (.inr ⟨_, vs.toArray, _, hk, rfl, rfl, rfl, by rw [List.size_toArray, hi.length]; exact hl, by simpa using rv⟩) (fun b u z => by have z' : (none : Option HO) = some u := z; cases z') fun b z => absurd rfl z
  | none =>
    have yes : ∀ {b : Addr}, b = a → (if b = a then some (HO.frz { cls := .type "list", data := .seq vs.toArray } (.lst (ns.map V.int))) else none) = some (HO.frz { cls := .type "list", data := .seq vs.toArray } (.lst (ns.map V.int))) := fun h => if_pos h
    have no : ∀ {b : Addr}, b ≠ a → (if b = a then some (HO.frz { cls := .type "list", data := .seq vs.toArray } (.lst (ns.map V.int))) else none) = none := fun h => if_neg h
    refine core (fun b => if b = a then some (.frz { cls := .type "list", data := .seq vs.toArray } (.lst (ns.map V.int))) else none) (fun b => ?_) (.inl (.inr ⟨{ cls := .type "list", data := .seq vs.toArray }, yes rfl⟩)) (fun b u z => ?_) fun b z => ⟨Classical.byContradiction fun h => z (no h), hk⟩
    · by_cases h : b = a
      · exact .inr ⟨_, _, yes h⟩
      · exact .inl (no h)
    · by_cases h : b = a
      · have z' := (yes h).symm.trans z
        cases z'
        subst h
        exact ⟨ha, by rw [List.length_map]; exact hl, vs, _, rv, ha⟩
      · have z' := (no h).symm.trans z
        cases z'
theorem walkG {l : PySem.W.OpenLaw} {n k : Nat} {q : Program} {loose : List Str} {XP : (Str → Option Value) → Heap → Prop} {YP : World → Heap → Prop} {d : DefRec} {x : Str} {sp : PySem.W.Frag → Sp}
    (hn : l.most = some n) (hn2 : n ≤ sizeLine) (hdf : d.params.defaults = []) (hr : Room k callerA)
    (F : ∀ (w : World) (mg : Str → Option Value) (fa : Addr) (h : Heap), YP w h → h.Ns mainGlobals mg → mg d.name = some (.ref fa) → ∃ (K : PySem.W.Frag) (fd : FuncData), K.In h ∧ (∀ (s : Shared) (u : Value), BindsTo s fd ⟨[u], []⟩ [(x, u)]) ∧
      ∀ base : Heap, K.In base → base.Ns mainGlobals mg → FnOkG l.prog w K mg base k fa fd [x] (sp K))
    (hsp : ∀ (K : PySem.W.Frag) (H : Hp) (a : Addr) (ns : List Int), SqL K H a (ns.map V.int) → sp K [.ref a] H (fun v _ => v = .bl true) fun _ _ _ => False) :
    PySem.W.WalkO q loose XP YP l.row.toRowW d [] (fun f vs => PySem.call f vs) := by
  refine Att.attach_callB hn hdf fun w s₀ s₁ mg mb fa o pm cd doc a vs ns G Y ho hd hcd hmg hobj hints hlen hbits hg => ?_
  obtain ⟨K, fd, KX, hb, hF⟩ := F w mg fa _ Y G.T.g hmg
  exact law_callG KX G.T.g G.T.b G.T.builtins G.T.nolimit hg hobj hints (Nat.le_trans hlen hn2) hr hF hb fun H hS => hsp K H a ns hS
end L2.My
end
section
set_option Elab.async false
set_option linter.all false
set_option maxRecDepth 100000
set_option maxHeartbeats 4000000
/-! try, then several clauses 'except x as n', then any more: what the body raises is of one of those classes. -/
namespace L2.My
open PySem PySem.Spec PyProof.Rows
abbrev HdT : Type := Value × Nat × (Addr → Value → Option Addr → TS)
/-- what the clauses wish, one after the other: one of them is meant -/
def wNam (K : PySem.W.Frag) (D : Ends) : List HdT → WX
  | [] => fun _ _ _ _ => False
  | t :: r => fun cls d σ H => ∃ b, PySem.W.exmOne K cls t.1 = some b ∧ (b = true → ∀ a, H a = none → t.2.2 a cls d { nx := fun σ' H' => D.nx (σ'.set t.2.1 none) H', rt := D.rt, bk := fun σ' H' => D.bk (σ'.set t.2.1 none) H', ct := fun σ' H' => D.ct (σ'.set t.2.1 none) H' } (σ.set t.2.1 (some (.ref a))) H) ∧ (b = false → wNam K D r cls d σ H)
inductive HdN (X : Cx) : List ExceptHandler → List HdT → Prop
  | nil {hds : List ExceptHandler} : HdN X hds []
  | cons {x n : Str} {c : Value} {i : Nat} {ts : Addr → Value → Option Addr → TS} {b₀ : Stmt} {suite : List Stmt} {np pos' : Pos} {hds : List ExceptHandler} {l : List HdT} (hi : X.N[i]? = some n) (hln : X.env.kindOf n = some .local) (hc : Names X x c)
      (hsu : ∀ (a : Addr) (oe : Obj) (cls : Value) (d : Option Addr) (pn : List (Addr × Obj)), Zc cls d oe → (∃ vs, oe.data = .fields vs) → PSs (X.suite a ((a, oe) :: pn)) (b₀ :: suite) (ts a cls d)) (r : HdN X hds l) :
      HdN X (.ExceptHandler (some (.Name x np)) (some n) (b₀ :: suite) pos' :: hds) ((c, i, ts) :: l)
section
variable {X : Cx} {body : List Stmt} {h₀ : ExceptHandler} {hds : List ExceptHandler} {l : List HdT} {pos : Pos} {tb : WX → TS}
theorem ps_try_nam (hs : X.stack = X.env :: X.outer) (hf : X.env.frame = some X.env.locals) (hN : X.N.Nodup)
    (hb : ∀ (W : WX) (pn : List (Addr × Obj)) (xe : Value → Shared → Prop), Takes (X.tr pn xe) W → PassesOwn (model X.prog X.w) X.A X.env xe → PSs (X.tr pn xe) body (tb W))
    (hh : HdN X (h₀ :: hds) l) : PS X (.Try body (h₀ :: hds) [] [] pos) (fun D σ H => tb (wNam X.K D l) D σ H) := by
  refine ⟨fun pins s σ H D I h => ?_⟩
  have ok := I.ok
  have hfr : X.A.frames = some (X.env :: X.outer) := by rw [ok.frames, hs]
  refine wpAny_Try_except ?_
  refine wpAny_mono ((hb (wNam X.K D l) (X.pn ++ pins) (fun e s₁ => wpAny (model X.prog X.w) X.A (noteFrame e X.env) (fun _ s₂ => wpAny (model X.prog X.w) X.A (setFlight e none) (fun _ s₃ =>
    wpAny (model X.prog X.w) X.A (handleBy e X.env (h₀ :: hds)) (SP X pins D) X.xe s₃) X.xe s₂) X.xe s₁) (fun u s' xx => ?_) PassesOwn.looking).run [] s σ H D (I.toTry _) h) (fun f s1 hsp => ?_) (fun e s1 he => he)
  rotate_left
  · cases f with
    | next => exact let ⟨σ', H', J', q⟩ := hsp; wpAny_execs_nil ⟨σ', H', J'.ofTry ok, q⟩
    | brk => exact let ⟨σ', H', J', q⟩ := hsp; ⟨σ', H', J'.ofTry ok, q⟩
    | cont => exact let ⟨σ', H', J', q⟩ := hsp; ⟨σ', H', J'.ofTry ok, q⟩
    | ret u => exact let ⟨v, σ', H', J', r, q⟩ := hsp; ⟨v, σ', H', J'.ofTry ok, r, q⟩
  obtain ⟨a, B, sI, pins', σ', H', cls, d, rfl, J', nb, up, sky, na, os, ag, wish⟩ := xx
  have J : Inv X pins σ' H' sI := J'.ofTry ok
  refine Sky.land Zc.steady hfr hf (show Sky B (X.env :: X.outer) a (Zc cls d) X.env.locals s'.heap by rw [← hs]; exact sky) fun h3 fl3 up3 => ?_
  obtain ⟨oe3, vs3, he3, hz3, hd3⟩ := fl3.there
  have off : a ∉ frs (X.env :: X.outer) := fun hm => by
    obtain ⟨_, o', e', hnf⟩ := fl3.2.2.1.mem hm
    rw [he3] at e'; cases e'
    exact hnf _ hd3
  have nL : a ≠ X.env.locals := fun z => off (List.mem_filterMap.mpr ⟨X.env, List.mem_cons_self, by rw [hf, z]⟩)
  have nF : a ∉ X.fs := fun hm => by
    obtain ⟨e, he, q⟩ := List.mem_filterMap.mp hm
    exact off (List.mem_filterMap.mpr ⟨e, List.mem_cons_of_mem _ he, q⟩)
  have J3 : Inv X pins σ' H' { s' with heap := h3 } := J.landed nb fl3.1 (up.trans up3) os ag
  have S3 := J3.suite he3 hd3 na nL nF
  have LT : PySem.W.Looks (model X.prog X.w) h3 (typeOf (.ref a)) cls := fun A Q E s k q => wpAny_typeOf_ref (k _ _ he3) (by rw [hz3.1]; exact q)
  have go : ∀ {hds' : List ExceptHandler} {l' : List HdT}, HdN X hds' l' → wNam X.K D l' cls d σ' H' → wpAny (model X.prog X.w) X.A (handleBy (.ref a) X.env hds') (SP X pins D) X.xe { s' with heap := h3 } := by
    intro hds' l' hk
    induction hk with
    | nil => exact fun z => z.elim
    | @cons x n c i ts b₀ suite np pos' hds2 l2 hi hln hc hsu r ih =>
      rintro ⟨b, hm, hyes, hno⟩
      refine wpAny_handleBy_cons (codeAny_handlers_test ?_) (by intro q; cases q)
      have LM := PySem.W.exm_one (M := model X.prog X.w) (J3.kIn) LT hm
      have test : ∀ {Q : Value → Shared → Prop} {E : Value → Shared → Prop}, Q c { s' with heap := h3 } → wpAny (model X.prog X.w) (X.A.mark (some (.ref a))) (eval (.Name x np) X.env) Q E { s' with heap := h3 } := fun {Q E} q => by
        obtain ⟨hg, hdbg, hm | ⟨hm, hv, hnn⟩⟩ := hc
        · exact ld_glob (X := X.suite a ((a, oe3) :: (X.pn ++ pins))) S3 hg hm q hdbg
        · exact ld_blt (X := X.suite a ((a, oe3) :: (X.pn ++ pins))) S3 hg hm hv q hnn hdbg
      refine test (LM.here ?_)
      cases b with
      | false => exact ih (hno rfl)
      | true =>
        refine codeAny_handlers_suite_as ?_
        refine HandSPX.lands_againZ fl3 fun h4 fl4 up4 => ?_
        obtain ⟨oe4, vs4, he4, hz4, hd4⟩ := fl4.there
        have S4 := (J.landed nb fl4.1 ((up.trans up3).trans up4) os ag : Inv X pins σ' H' { s' with heap := h4 }).suite he4 hd4 na nL nF
        refine store_ok (X := X.suite a ((a, oe4) :: (X.pn ++ pins))) (v := .ref a) S4 hN hi (.inl hln) rfl (fun s5 S5 => ?_) (.inr hln)
        refine wpAny_mono ((hsu a oe4 cls d (X.pn ++ pins) hz4 ⟨_, hd4⟩).run [] s5 _ H' _ S5 (hyes rfl a na)) (fun f s6 hsp => ?_) (fun _ _ z => False.elim z)
        have end_ : ∀ {σ6 : St} {H6 : Hp} {Q : Shared → Prop}, Inv (X.suite a ((a, oe4) :: (X.pn ++ pins))) [] σ6 H6 s6 → (∀ s7, Inv X pins (σ6.set i none) H6 s7 → Q s7) →
            wpAny (model X.prog X.w) X.A (do bindName X.env n .none; unbindBehindTheSuite X.env n pos') (fun _ s7 => Q s7) X.xe s6 := fun {σ6 H6 Q} S6 hq => gone_ok (S6.unsuite ok) hN hi hln hq
        cases f with
        | next => exact let ⟨σ6, H6, S6, q6⟩ := hsp; end_ S6 fun s7 J7 => ⟨_, _, J7, q6⟩
        | brk => exact let ⟨σ6, H6, S6, q6⟩ := hsp; end_ S6 fun s7 J7 => ⟨_, _, J7, q6⟩
        | cont => exact let ⟨σ6, H6, S6, q6⟩ := hsp; end_ S6 fun s7 J7 => ⟨_, _, J7, q6⟩
        | ret u => exact let ⟨v6, σ6, H6, S6, r6, q6⟩ := hsp; end_ S6 fun s7 J7 => ⟨_, _, _, J7, r6, q6⟩
  exact go hh wish
end
end L2.My
end
section
set_option Elab.async false
set_option linter.all false
set_option maxRecDepth 100000
set_option maxHeartbeats 4000000
/-! Own errors raised, and a def that calls what it got and names the error. -/
namespace L2.My
open PySem PySem.Spec PyProof.Rows
section
variable {X : Cx}
/-- what gives a new exception without a dict back makes an exception -/
theorem pmk_x {e : Expr} {te : TE} (hx : X.ex = []) (he : PE X e te) : PMk X e (fun σ H Q => te σ H fun x H1 => ∃ a C, x = .ref a ∧ H1 a = some (exo a C none) ∧ Fr0 X.H_0 a ∧ Raises X (.ref C) ∧ Q (.ref C) none (delH H1 a)) := by
  intro pins s σ H Q I h
  refine wpAny_mono (he.run pins s σ H _ I h) (fun u s1 hu => ?_) fun _ _ x => x
  obtain ⟨v, H1, I1, r1, a, C, rfl, ha, h0, hr, q⟩ := hu
  cases r1
  obtain ⟨t1, ho⟩ := exo_at I1.hok ha
  obtain ⟨G, gs, ga, J⟩ := I1.untrack ha h0 hx
  exact ⟨a, _, _, { s1 with heap := G }, delH H1 a, .ref C, none, rfl, J, gs, ga, ho, ⟨rfl, rfl⟩, rfl, rfl, delH_same, rfl, I1.bare, hr, q⟩
/-- __init__ that does nothing -/
def spNo : Sp := fun vs H Q _ => ∃ a, vs = [.ref a] ∧ Q .non H
/-- the facts by which a class whose __init__ does nothing is made -/
structure Ini0 (P : Program) (w : World) (K : PySem.W.Frag) (mg : Str → Option Value) (base : Heap) (C : Addr) : Prop where
  o : OexC K C
  f : ∃ fI fd, PySem.W.findIn K (.ref C) "__init__" = some (some (.ref fI)) ∧ PySem.W.typeIn K (.ref fI) = some (.type "function") ∧ FnOk P w K mg base CX0 1 fI fd ["self"] spNo ∧ Binds K fd ["self"] []
/-- raise X() -/
theorem pmk_no {C : Addr} {x : Str} {p pos : Pos} (T : Ini0 X.prog X.w X.K X.mg X.base C) (hx : X.ex = []) (hr : Room 2 X.A) (hg : Gl X x) (hm : X.mg x = some (.ref C)) (hdb : (x == ("__debug__" : Str)) = false := by decide) :
    PMk X (.Call (.Name x p) [] [] pos) (fun σ H Q => (∀ a, H a = none → X.H_0 a = none) ∧ Q (.ref C) none H) := by
  obtain ⟨fI, fd, i1, i2, F, b⟩ := T.f
  intro pins s σ H Q I h
  obtain ⟨h0, q⟩ := h
  refine pmk_x hx (pe_mkx0 (CX := CX0) T.o i1 i2 F hr b .nil (fun _ _ _ _ _ _ _ z => z.elim) hg hm hdb) pins s σ H Q I ?_
  refine ⟨by decide, fun a ha => ⟨a, rfl, rfl, a, C, rfl, upd_same, fr0_none (h0 a ha), raises_own T.o.exC T.o.tyC, ?_⟩⟩
  rw [delH_new ha]
  exact q
/-- isinstance of the caught exception, whatever it is -/
def rIsC (K : PySem.W.Frag) (a : Addr) (cls : Value) (d : Option Addr) : List V → Hp → VK → Prop := fun xs H Q => ∃ (D : Addr) (c : V) (cv : Value) (b : Bool), cls = .ref D ∧ d = none ∧ ExcC K D ∧ xs = [.ref a, c] ∧ (∀ u, RelV c u → u = cv) ∧ PySem.W.kitOne K (.ref D) cv = some b ∧ Q (.bl b) H
theorem call_isC {a : Addr} {oe : Obj} {cls : Value} {d : Option Addr} {pn : List (Addr × Obj)} (hz : Zc cls d oe) (hf : ∃ vs, oe.data = .fields vs) : CallR (X.suite a ((a, oe) :: pn)) (.builtin "isinstance") (rIsC X.K a cls d) := by
  intro pins s σ H xs us Q I r h
  obtain ⟨D, c, cv, b, rfl, rfl, C, rfl, hcv, e, q⟩ := h
  exact call_isE C hz hf pins s σ H _ us Q I r ⟨c, cv, b, rfl, hcv, e, q⟩
theorem XC.exc {K : PySem.W.Frag} {C : Addr} (T : XC K C) : ExcC K C := ⟨T.hga, T.hgt, T.o.exC, T.hd, T.ha, T.hn, T.ht, T.hm⟩
end
end L2.My
end
section
set_option Elab.async false
set_option linter.all false
set_option maxRecDepth 100000
set_option maxHeartbeats 4000000
/-! Trees as they stand, their ==; made of what is drawn; data that is shown. -/
namespace L2.My
open PySem PySem.Spec PyProof.Rows
def TreeAt (H : Hp) (C x dx la na : Addr) (h : Nat) (ls : List Lf) (ns : List Nd) : Prop := H x = some (.ins C dx [("height", .int (h : Nat)), ("leaves", .ref la), ("nodes", .ref na)]) ∧ LvsAt H la ls ∧ NdsAt H na ns
theorem depM {α : Type} {f : α → PyData} {n : Nat} (h : ∀ x, PyData.depth (f x) ≤ n) : ∀ xs : List α, PyData.depthAll (xs.map f) ≤ n + 1
  | [] => by
    simp only [List.map_nil, PyData.depthAll]
    omega
  | x :: r => by
    have h1 := depM h r
    have h2 := h x
    simp only [List.map_cons, PyData.depthAll]
    omega
theorem dep_tup {α : Type} {f : α → PyData} {n : Nat} (h : ∀ x, PyData.depth (f x) ≤ n) (xs : List α) : PyData.depth (.tuple (xs.map f)) ≤ n + 2 := by
  have := depM h xs
  simp only [PyData.depth]
  omega
theorem dep_lf (l : Lf) : PyData.depth (dLf l) ≤ 4 := by
  cases l with
  | none => simp only [dLf, PyData.depth]; omega
  | some p => simp only [dLf, PyData.depth, PyData.depthAll]; omega
theorem dep_nd (n : Nd) : PyData.depth (dNd n) ≤ 8 := by
  have h1 := dep_tup (f := fun (j : Nat) => PyData.int j) (n := 1) (fun x => by simp only [PyData.depth]; omega) n.2.2
  simp only [dNd, dNats, PyData.depth, PyData.depthAll] at h1 ⊢
  omega
theorem dep_lvs (ls : List Lf) : PyData.depth (dLvs ls) ≤ 6 := dep_tup dep_lf ls
theorem dep_nds (ns : List Nd) : PyData.depth (dNds ns) ≤ 10 := dep_tup dep_nd ns
theorem shaped_of {d : PyData} (h1 : Nice d) (h2 : PyData.depth d ≤ 40) : SeqAt.shaped d = true := by
  simp only [SeqAt.shaped, h1.cl, Bool.true_and]
  exact decide_eq_true (by omega)
theorem nice_lvs {ls : List Lf} (h : ∀ l ∈ ls, GLf l) : Nice (dLvs ls) := .tup (.map fun l hl => nice_lf (h l hl))
theorem nice_nds {ns : List Nd} (h : ∀ n ∈ ns, GNd n) : Nice (dNds ns) := .tup (.map fun n hn => nice_nd (h n hn))
def dPt (h : Nat) (ls : List Lf) (ns : List Nd) : PyData := .list [.int (h : Nat), dLvs ls, dNds ns]
theorem nice_h {h : Nat} (hh : h ≤ 8) : Nice (.int (h : Nat)) := .int (Nat.le_trans (show ((h : Nat) : Int).natAbs ≤ 8 by omega) (by decide))
theorem shaped_pt {h : Nat} {ls : List Lf} {ns : List Nd} (g : GTr h ls ns) : SeqAt.shaped (dPt h ls ns) = true := by
  have h1 := dep_lvs ls
  have h2 := dep_nds ns
  refine shaped_of (.lst (.cons (nice_h g.h8) (.cons (nice_lvs g.gl) (.cons (nice_nds g.gn) .nil)))) ?_
  simp only [dPt, PyData.depth, PyData.depthAll]
  omega
theorem eqv_pt (h h2 : Nat) (ls ls2 : List Lf) (ns ns2 : List Nd) : PyData.eqv (dPt h ls ns) (dPt h2 ls2 ns2) = decide (h = h2 ∧ ls = ls2 ∧ ns = ns2) := by
  unfold dPt
  rw [PyData.eqv, PyData.eqvAll, PyData.eqvAll, PyData.eqvAll, PyData.eqvAll, eqv_int, eqv_lvs, eqv_nds, Bool.and_true, ← Bool.decide_and, ← Bool.decide_and]
  exact decide_eq_decide.mpr (by rw [Int.natCast_inj])
theorem dpPt {K : PySem.W.Frag} {H : Hp} {p la na : Addr} {h : Nat} {ls : List Lf} {ns : List Nd} (hp : H p = some (.lst [.int (h : Nat), .ref la, .ref na])) (h1 : LvsAt H la ls) (h2 : NdsAt H na ns) : Dp K H (.ref p) (dPt h ls ns) := .lst (.of hp) (.cons (.int _) (.cons (dpLvs h1) (.cons (dpNds h2) .nil)))
/-- what isinstance asks of the class -/
structure TrI (K : PySem.W.Frag) (C : Addr) : Prop where
  ha : PySem.W.findIn K (.ref C) "__class__" = some (some (.builtin "object.__class__"))
  hn : PySem.W.specialIn K (.builtin "object.__class__") "__get__" = some (some (.builtin "getset_descriptor.__get__"))
  htk : PySem.W.takesIn K (.builtin "object.__class__") = some true
  hm : PySem.W.mroIn K C (.type "object") = some true
  self : PySem.W.kitOne K (.ref C) (.ref C) = some true
def spEq (K : PySem.W.Frag) (C : Addr) : Sp := fun vs H Q _ => ∃ x dx la na h ls ns y, vs = [.ref x, y] ∧ TreeAt H C x dx la na h ls ns ∧ GTr h ls ns ∧
  ((∃ z dz la2 na2 h2 ls2 ns2, y = .ref z ∧ TreeAt H C z dz la2 na2 h2 ls2 ns2 ∧ GTr h2 ls2 ns2 ∧ Q (.bl (decide (h = h2 ∧ ls = ls2 ∧ ns = ns2))) H) ∨ ∃ t, TyX K H y t ∧ PySem.W.kitOne K t (.ref C) = some false ∧ Q (.bl false) H)
structure EqT (P : Program) (w : World) (K : PySem.W.Frag) (mg : Str → Option Value) (base : Heap) (k : Nat) (C : Addr) where
  f : Addr
  fd : FuncData
  F : FnOk P w K mg base CX0 k f fd ["self", "other"] (spEq K C)
  hs : PySem.W.findIn K (.ref C) "__eq__" = some (some (.ref f))
  hf : PySem.W.isFn K (.ref f) = true
  b : Binds K fd ["self", "other"] []
  nf : PySem.W.notFirst K C (.ref C) = true
  nt : PySem.W.notFirst K C (.type "tuple") = true
  kt : PySem.W.kitOne K (.type "tuple") (.ref C) = some false
/-- what makes a tree -/
structure MkT (P : Program) (w : World) (K : PySem.W.Frag) (mg : Str → Option Value) (base : Heap) (k : Nat) (C B : Addr) where
  f : Addr
  fd : FuncData
  M : Mk K C f
  F : FnOk P w K mg base (CX P w) k f fd ["self", "height", "leaves", "nodes"] (spTree C B)
  g : mg "Tree" = some (.ref C)
  b : Binds K fd ["self", "height", "leaves", "nodes"] []
theorem pass_no {X : Cx} : Passes (CX X.prog X.w) X E0 := fun pins σ H s e s' I h => by
  obtain ⟨_, _, _, _, _, _, _, _, _, _, _, _, hE⟩ := h
  exact hE.elim
theorem DrT.gtr {b la na : Addr} {H : Hp} {h : Nat} {ls : List Lf} {ns : List Nd} (d : DrT h ls ns) : GTr h ls ns := by
  refine ⟨d.h8, d.l256, d.gl, d.nl, fun n hn => ?_⟩
  have r := d.gn n hn
  have h8 := d.h8
  have hl := d.l256
  exact ⟨by have := r.lh; omega, r.l1, r.b128 h8, r.k0, r.k1, r.le, fun j hj => by
    obtain ⟨_, z, hz⟩ := r.as j hj
    have := (List.getElem?_eq_some_iff.mp hz).1
    omega⟩
section
variable {P : Program} {w : World} {K : PySem.W.Frag} {mg : Str → Option Value} {base : Heap} {C B : Addr}
theorem scEq : FnScope ["self", "other"] ["self", "other"] (defScope (mT 1)) := ⟨rfl, rfl, rfl, by decide +kernel, rfl, by decide +kernel, by decide +kernel⟩
theorem ok_eq {f : Addr} {fd : FuncData} {k : Nat} (F : Fun K "__eq__" "Tree.__eq__" (mT 1) f fd) (T : Tx mg) (c : TrC K C) (ci : TrI K C) (gB : mg "Tree" = some (.ref C)) : FnOk P w K mg base CX0 (k + 1) f fd ["self", "other"] (spEq K C) := by
  refine F.ok scEq (fun vs H Q E h => ?_) (fun cdv A outer s H vs Q E hr h => ?_)
  · obtain ⟨x, dx, la, na, h, ls, ns, y, rfl, _⟩ := h
    rfl
  · obtain ⟨x, dx, la, na, h, ls, ns, y, rfl, ⟨hx, hL, hN⟩, g, q⟩ := h
    refine ⟨_, (pss_cons (ps_if (pt_not (pt_val (pe_callB call_isi (by rfl) T.isi (by decide +kernel) (pa_cons (pv 1) (pa_cons (pe_glob (v := .ref C) (by rfl) gB rfl) pa_nil))))) (pss_one (ps_ret pe_bl)) pss_nil) (pss_one (ps_ret (pe_and (pe_cmpR op_eq (pe_fld (pv 0) rfl) (pe_fld (pv 1) rfl) (nomark _)) (pe_and (pe_cmpR (op_eqD hr.units) (pe_fld (pv 0) rfl) (pe_fld (pv 1) rfl) (nomark _)) (pe_one (pe_cmpR (op_eqD hr.units) (pe_fld (pv 0) rfl) (pe_fld (pv 1) rfl) (nomark _)))))))), ?_⟩
    rcases q with ⟨z, dz, la2, na2, h2, ls2, ns2, rfl, ⟨hz, hL2, hN2⟩, g2, q⟩ | ⟨t, ht, hk, q⟩
    · refine ⟨_, rfl, _, _, _, _, true, rfl, .own C, .base (.ins hz c.cls ci.ha ci.hn ci.htk ci.hm), ci.self, _, rfl, iteF ?_⟩
      refine ⟨_, rfl, _, _, _, _, _, rfl, hx, c.cls, c.na _ (by simp), rfl, _, rfl, _, _, _, _, _, rfl, hz, c.cls, c.na _ (by simp), rfl, rfl, _, rfl, ?_⟩
      have eh : decide (V.int (h : Nat) = V.int (h2 : Nat)) = decide (h = h2) := by
        rw [dec_int, Bool.eq_iff_iff, beq_iff_eq, decide_eq_true_iff]
        omega
      rw [eh]
      by_cases h0 : h = h2
      · rw [decide_eq_true h0]
        refine iteT ?_
        refine ⟨_, rfl, _, _, _, _, _, rfl, hx, c.cls, c.na _ (by simp), rfl, _, rfl, _, _, _, _, _, rfl, hz, c.cls, c.na _ (by simp), rfl, ?_⟩
        refine ⟨_, _, dpLvs hL, dpLvs hL2, shaped_of (nice_lvs g.gl) (Nat.le_trans (dep_lvs ls) (by decide)), shaped_of (nice_lvs g2.gl) (Nat.le_trans (dep_lvs ls2) (by decide)), _, rfl, ?_⟩
        rw [eqv_lvs]
        by_cases h1 : ls = ls2
        · rw [decide_eq_true h1]
          refine iteT ?_
          refine ⟨_, rfl, _, _, _, _, _, rfl, hx, c.cls, c.na _ (by simp), rfl, _, rfl, _, _, _, _, _, rfl, hz, c.cls, c.na _ (by simp), rfl, ?_⟩
          refine ⟨_, _, dpNds hN, dpNds hN2, shaped_of (nice_nds g.gn) (Nat.le_trans (dep_nds ns) (by decide)), shaped_of (nice_nds g2.gn) (Nat.le_trans (dep_nds ns2) (by decide)), ?_⟩
          rw [eqv_nds]
          have e : decide (h = h2 ∧ ls = ls2 ∧ ns = ns2) = decide (ns = ns2) := decide_eq_decide.mpr ⟨fun z => z.2.2, fun z => ⟨h0, h1, z⟩⟩
          rw [e] at q
          exact q
        · rw [decide_eq_false h1]
          rw [decide_eq_false (fun z => h1 z.2.1)] at q
          exact iteF q
      · rw [decide_eq_false h0]
        rw [decide_eq_false (fun z => h0 z.1)] at q
        exact iteF q
    · exact ⟨_, rfl, _, _, _, _, false, rfl, .own C, ht, hk, _, rfl, iteT q⟩
end
/-- repr of what is data -/
def rRepr (K : PySem.W.Frag) : List V → Hp → VK → Prop := fun xs H Q => ∃ (a : Addr) (d : PyData), xs = [.ref a] ∧ Dp K H (.ref a) d ∧ Nice d ∧ d.depth ≤ 40 ∧ d.bulk ≤ 306100 ∧ Q (.str d.shown) H
theorem call_repr {X : Cx} (hg : X.A.guards = some []) (hu : X.A.units + 64 < cLine) : CallR X (.builtin "repr") (rRepr X.K) := by
  intro pins s σ H xs us Q I r h
  obtain ⟨a, d, rfl, dp, nd, dd, db, q⟩ := h
  obtain ⟨u, rfl, ru⟩ : ∃ u, us = [u] ∧ RelV (.ref a) u := by
    cases r with
    | cons r1 rs => cases rs; exact ⟨_, rfl, r1⟩
  obtain rfl : u = Value.ref a := ru
  obtain ⟨as, rd⟩ := Dp.reads I d _ _ dp rfl
  exact PySem.repr_of_reads' rd nd.sh (fun z => by rw [nd.hd] at z; cases z) hg (by omega) (fun _ _ e => e) (fun h' u tk hk => ⟨.str d.shown, H, I.kept (t' := tk) hk, ⟨u, rfl⟩, q⟩) (fits_of nd db)
theorem low_str {z : Str} (h : z.cps.toList.all (fun c => decide (c < 128)) = true) : Nice (.str z) := .str fun c hc => of_decide_eq_true (List.all_eq_true.mp h c hc)
theorem any_nats (i : Nat) : ∀ l : List Nat, ((l.map fun (j : Nat) => PyData.int j).any fun y => PyData.eqv y (.int (i : Nat))) = decide (i ∈ l)
  | [] => rfl
  | y :: r => by
    rw [List.map_cons, List.any_cons, any_nats i r, eqv_int, ← Bool.decide_or]
    refine decide_eq_decide.mpr ?_
    rw [List.mem_cons]
    exact or_congr_left ⟨fun h => by omega, fun h => by omega⟩
theorem can_nats : ∀ l : List Nat, PyData.canLayAll0 (l.map fun (j : Nat) => PyData.int j) = true
  | [] => rfl
  | z :: r => by
    rw [List.map_cons, PyData.canLayAll0, can_nats r]
    rfl
theorem dep_nats : ∀ l : List Nat, PyData.depthAll (l.map fun (j : Nat) => PyData.int j) ≤ 1
  | [] => by decide
  | z :: r => by
    have := dep_nats r
    simp only [List.map_cons, PyData.depthAll, PyData.depth]
    omega
theorem shaped_nats (l : List Nat) : SeqAt.shaped (.list (l.map fun (j : Nat) => PyData.int j)) = true := by
  have h1 : PyData.canLay0 (.list (l.map fun (j : Nat) => PyData.int j)) = true := by rw [PyData.canLay0]; exact can_nats l
  have h2 := dep_nats l
  unfold SeqAt.shaped
  rw [h1, Bool.true_and]
  refine decide_eq_true ?_
  simp only [PyData.depth]
  omega
theorem shaped_int (i : Int) : SeqAt.shaped (.int i) = true := by
  unfold SeqAt.shaped
  rw [PyData.depth]
  rfl
end L2.My
end
section
set_option Elab.async false
set_option linter.all false
set_option maxRecDepth 100000
set_option maxHeartbeats 4000000
/-! check_leaf, path, beside, members. -/
namespace L2.My
open PySem PySem.Spec PyProof.Rows
abbrev sChk : Stmt := top 25
abbrev sPath : Stmt := top 27
/-- a def of the module that may be called and may raise -/
structure CalX (P : Program) (w : World) (K : PySem.W.Frag) (mg : Str → Option Value) (base : Heap) (k : Nat) (x : Str) (ps : List Str) (sp : Sp) where
  f : Addr
  fd : FuncData
  G : FnOk P w K mg base (CX P w) k f fd ps sp
  kp : PySem.W.keepIn K (.ref f) = true
  g : mg x = some (.ref f)
  b : Binds K fd ps []
section
variable {X : Cx} {k j : Nat} {x : Str} {ps : List Str} {sp : Sp} {C : Addr} {p pos apos : Pos} {e o : Expr} {es : List Expr} {t : TA} {to : TE} {E : XK} {W : WX}
theorem pe_cx (c : CalX X.prog X.w X.K X.mg X.base k x ps sp) (hr : Room j X.A) (hk : k ≤ j) (hg : Gl X x) (hx : Passes (CX X.prog X.w) X E) (ha : PA X (e :: es) t) (hdb : (x == ("__debug__" : Str)) = false := by decide)
    (he : starEach (e :: es) X.env = (false, eval e X.env) :: starEach es X.env := by rfl) (hpl : (backTo pos (starEach es X.env)).any (·.1) = false := by rfl) : PE X (.Call (.Name x p) (e :: es) [] pos) (tCall sp [] E t) :=
  pe_call c.G (hr.mono hk) hg c.g c.kp c.b .nil hx ha hdb he hpl
end
/-- an error without parts that may be raised -/
structure NoC (P : Program) (w : World) (K : PySem.W.Frag) (mg : Str → Option Value) (base : Heap) (x : Str) (N : Addr) : Prop where
  i : Ini0 P w K mg base N
  g : mg x = some (.ref N)
/-- pairs of numbers -/
def PrAt (H : Hp) (v : V) (p : Nat × Nat) : Prop := ∃ a, v = .ref a ∧ H a = some (.tup [.int (p.1 : Nat), .int (p.2 : Nat)])
theorem PrAt.tk {H H' : Hp} {v : V} {p : Nat × Nat} (h : PrAt H v p) (t : TK H H') : PrAt H' v p := by
  obtain ⟨a, rfl, h⟩ := h
  exact ⟨a, rfl, t.1 _ _ h⟩
def PrsAt (H : Hp) (a : Addr) (l : List (Nat × Nat)) : Prop := ∃ vs, H a = some (.tup vs) ∧ Paired (PrAt H) vs l
theorem PrsAt.tk {H H' : Hp} {a : Addr} {l : List (Nat × Nat)} (h : PrsAt H a l) (t : TK H H') : PrsAt H' a l := by
  obtain ⟨vs, h1, h2⟩ := h
  exact ⟨vs, t.1 _ _ h1, Paired.mapP h2 fun _ _ r => r.tk t⟩
def pathL (h j : Nat) : List (Nat × Nat) := (List.range h).map fun k => (k + 1, j / 2 ^ (k + 1))
def besL (h j : Nat) : List (Nat × Nat) := (List.range h).map fun k => (k, (j / 2 ^ k) ^^^ 1)
def memL (ls : List Lf) : List Nat := (List.range ls.length).filter fun j => (ls.getD j none).isSome
/-- a comprehension over a range that gives new pairs -/
theorem lcPr {lo : Int} {n : Nat} {g : TG} {te : TE} {vs : List Nat} {σ : St} {D : Addr} {Qd : Hp → Prop} {H1 : Hp} (f : Nat → Nat × Nat) (hn : n < sizeLine) (hD : H1 D = none)
    (hs : ∀ i H (Q' : VK), i < n → Same H1 H → (∀ p, H p = none → Q' (.ref p) (upd H p (.tup [.int ((f i).1 : Nat), .int ((f i).2 : Nat)]))) → g (.int (lo + i)) (wipe σ vs) H fun σ2 H2 => wipe σ2 vs = wipe σ vs ∧ te σ2 H2 Q')
    (hd : ∀ H us, Same H1 H → H D = some (.lst us) → Paired (PrAt H) us ((List.range n).map f) → Qd H) : CompOut (Itr lo n) g tYes te vs σ D Qd H1 := by
  refine lc_it (walk_range (lo := lo)) (tt := tYes) (fun i H => Same H1 H ∧ ∃ us, H D = some (.lst us) ∧ us.length = i ∧ Paired (PrAt H) us ((List.range i).map f)) ⟨same_upd hD, [], upd_same, rfl, .nil⟩ (fun _ _ _ _ => trivial) ?_ (fun H ⟨s, us, h1, h2, h3⟩ => hd H us s h1 h3)
  rintro i x H H' hi ⟨s, us, hus, hl, hp⟩ ⟨rfl, rfl⟩
  refine hs i _ _ hi s fun p np => ?_
  have s2 := same_upd (o := HO.tup [.int ((f i).1 : Nat), .int ((f i).2 : Nat)]) np
  have hu := s2 _ _ hus
  refine ⟨us, hu, by omega, same_put (s.trans s2) hD, us ++ [.ref p], upd_same, by rw [List.length_append, hl]; rfl, ?_⟩
  have tk : TK H' (upd (upd H' p (.tup [.int ((f i).1 : Nat), .int ((f i).2 : Nat)])) D (.lst (us ++ [.ref p]))) := (TK.same s2).trans (.upd hu (fun _ e => by cases e))
  have npD : p ≠ D := fun e => by rw [e, hus] at np; cases np
  rw [List.range_succ, List.map_append]
  exact Paired.snoc (Paired.mapP hp fun _ _ r => r.tk tk) ⟨p, rfl, by rw [upd_ne npD, upd_same]⟩
/-- a good tree's facts, as calls want them -/
def TrIn (C : Addr) (H : Hp) (x : Addr) (h : Nat) (ls : List Lf) (ns : List Nd) : Prop := ∃ dx la na, TreeAt H C x dx la na h ls ns
theorem TrIn.tk {C : Addr} {H H' : Hp} {x : Addr} {h : Nat} {ls : List Lf} {ns : List Nd} (t : TrIn C H x h ls ns) (k : TK H H') (e : H' x = H x) : TrIn C H' x h ls ns := by
  obtain ⟨dx, la, na, h1, h2, h3⟩ := t
  exact ⟨dx, la, na, e.trans h1, h2.tk k, h3.tk k⟩
theorem TrIn.same {C : Addr} {H H' : Hp} {x : Addr} {h : Nat} {ls : List Lf} {ns : List Nd} (t : TrIn C H x h ls ns) (s : Same H H') : TrIn C H' x h ls ns := by
  have t' := t
  obtain ⟨dx, la, na, h1, h2, h3⟩ := t'
  exact t.tk (.same s) ((s _ _ h1).trans h1.symm)
def spChk (C NL : Addr) : Sp := fun vs H Q E => ∃ b x h ls ns v, vs = [.ref x, v] ∧ TrIn C H x h ls ns ∧ DrT h ls ns ∧ Thg b H v ∧ (belowV (ls.length : Int) v = true → Q .non H) ∧ (belowV (ls.length : Int) v = false → E (.ref NL) none H)
def spWay (C NL : Addr) (f : Nat → Nat → List (Nat × Nat)) : Sp := fun vs H Q E => ∃ b x h ls ns v, vs = [.ref x, v] ∧ TrIn C H x h ls ns ∧ DrT h ls ns ∧ Thg b H v ∧ (belowV (ls.length : Int) v = true → ∀ H' t, Same H H' → PrsAt H' t (f h (iV v)) → Q (.ref t) H') ∧ (belowV (ls.length : Int) v = false → E (.ref NL) none H)
def spMems (C : Addr) : Sp := fun vs H Q _ => ∃ x h ls ns, vs = [.ref x] ∧ TrIn C H x h ls ns ∧ DrT h ls ns ∧ ∀ H' t, Same H H' → H' t = some (.tup (nN (memL ls))) → Q (.ref t) H'
section
variable {P : Program} {w : World} {K : PySem.W.Frag} {mg : Str → Option Value} {base : Heap} {C NL : Addr}
theorem scChk : FnScope ["tree", "leaf"] ["tree", "leaf"] (defScope sChk) := ⟨rfl, rfl, rfl, by decide +kernel, rfl, by decide +kernel, by decide +kernel⟩
theorem ok_chk {f : Addr} {fd : FuncData} {k : Nat} (F : Fun K "check_leaf" "check_leaf" sChk f fd) (T : Tx mg) (c : TrC K C) (N : NoC P w K mg base "NoLeaf" NL) (cB : Cal P w K mg base (k + 2) "is_below" ["bound", "thing"] spBelow) : FnOk P w K mg base (CX P w) (k + 3) f fd ["tree", "leaf"] (spChk C NL) := by
  refine F.okX scChk (fun vs H Q E h => ?_) (fun cdv A outer s H vs Q E hr h => ?_)
  · obtain ⟨b, x, h, ls, ns, v, rfl, _⟩ := h
    rfl
  · obtain ⟨b, x, h, ls, ns, v, rfl, ⟨dx, la, na, hx, ⟨xs, hla, hp⟩, hN⟩, d, hv, q, qe⟩ := h
    have tk := takes_of (X := cxOf (CX P w) P w K mg base ["tree", "leaf"] "check_leaf" (defScope sChk) f cdv A outer s H E) (E := E) rfl rfl rfl rfl
    refine ⟨_, (pss_one (ps_if (pt_not (pt_val (pe_c cB hr (by omega) (by rfl) (pa_cons (pe_callB call_len_seq (by rfl) T.len_ PySem.boot_len (pa_cons (pe_fld (pv 0) rfl) pa_nil)) (pa_cons (pv 1) pa_nil))))) (pss_one (ps_raise rfl tk (pmk_no N.i rfl (hr.mono (by omega)) (by rfl) N.g))) pss_nil)), ?_⟩
    have hl := Paired.len hp
    refine ⟨_, rfl, x, C, dx, _, _, rfl, hx, c.cls, c.na _ (by simp), rfl, la, xs, rfl, .inr hla.sq, _, rfl, b, _, v, rfl, hv, _, rfl, ?_⟩
    rw [hl]
    cases hb : belowV (ls.length : Int) v with
    | true => exact iteF (q hb)
    | false => exact iteT ⟨fun _ h => h, qe hb⟩
theorem scPath : FnScope ["tree", "leaf", "level"] ["tree", "leaf"] (defScope sPath) := ⟨rfl, rfl, rfl, by decide +kernel, rfl, by decide +kernel, by decide +kernel⟩
theorem ok_path {f : Addr} {fd : FuncData} {k : Nat} (F : Fun K "path" "path" sPath f fd) (T : Tx mg) (c : TrC K C) (cC : CalX P w K mg base (k + 3) "check_leaf" ["tree", "leaf"] (spChk C NL)) : FnOk P w K mg base (CX P w) (k + 4) f fd ["tree", "leaf"] (spWay C NL pathL) := by
  refine F.okX scPath (fun vs H Q E h => ?_) (fun cdv A outer s H vs Q E hr h => ?_)
  · obtain ⟨b, x, h, ls, ns, v, rfl, _⟩ := h
    rfl
  · obtain ⟨b, x, h, ls, ns, v, rfl, hT, d, hv, q, qe⟩ := h
    have tk := takes_of (X := cxOf (CX P w) P w K mg base ["tree", "leaf", "level"] "path" (defScope sPath) f cdv A outer s H E) (E := E) rfl rfl rfl rfl
    refine ⟨_, (pss_cons (ps_expr (pe_cx cC hr (by omega) (by rfl) (passes_call tk (E := E) fun _ _ _ _ h => h) (pa_cons (pv 0) (pa_cons (pv 1) pa_nil)))) (pss_one (ps_ret (pe_tupleOf (by rfl) T.tuple_ (pe_lc (own := [("level", 2)]) (g := gName 2) rfl scPath.nd (pi_range2 (by rfl) T.range_ (pa_cons pe_int (pa_cons (pe_op op_add (pe_fld (pv 0) rfl) pe_int) pa_nil))) (blkOk_by (N := ["tree", "leaf", "level"]) (sc := defScope sPath) (by decide +kernel)) (fun _ _ _ _ _ => pg_name (i := 2) scPath.nd rfl (Or.inl rfl)) (fun _ _ _ _ _ => pts_nil) (fun _ _ _ _ _ => (pe_tup (pa_cons (pv 2) (pa_cons (pe_op op_shr (pv 1) (pv 2)) pa_nil))))))))), ?_⟩
    obtain ⟨dx, la, na, hx, hL, hN⟩ := id hT
    have h8 := d.h8
    refine ⟨_, rfl, _, rfl, b, x, h, ls, ns, v, rfl, hT, d, hv, fun hb => ?_, qe⟩
    obtain ⟨b1, b2, _⟩ := below_int hb
    have q2 := q hb
    generalize iV v = j at *
    subst b1
    refine ⟨_, rfl, x, C, dx, _, _, rfl, hx, c.cls, c.na _ (by simp), rfl, _, _, rfl, rfl, _, _, rfl, ⟨by decide, by decide, by omega, by omega⟩, fun D nD => ?_⟩
    refine lcPr (fun k => (k + 1, j / 2 ^ (k + 1))) (Nat.lt_of_le_of_lt (show (((h : Nat) : Int) + 1 - 1).toNat ≤ 8 by omega) (by decide)) nD ?_ ?_
    · intro i G Q' hi s1 hq
      refine ⟨rfl, _, rfl, _, rfl, _, rfl, _, _, rfl, rfl, by omega, by show 2 ≤ sizeLine; decide, fun p np => ?_⟩
      have e1 : (1 + (i : Int)) = ((i + 1 : Nat) : Int) := by omega
      have e2 : ((j : Nat) : Int) / 2 ^ (1 + (i : Int)).toNat = ((j / 2 ^ (i + 1) : Nat) : Int) := by
        rw [e1, Int.toNat_natCast]
        push_cast
        rfl
      have := hq p np
      dsimp only at this ⊢
      rw [e2, e1]
      exact this
    · intro G us s1 hD hpu
      refine .inl ⟨D, us, rfl, .of hD, fun t nt => q2 _ t (s1.trans (same_upd nt)) ⟨us, upd_same, ?_⟩⟩
      have e : (((h : Nat) : Int) + 1 - 1).toNat = h := by omega
      rw [e] at hpu
      exact Paired.mapP hpu fun _ _ r => r.tk (.same (same_upd nt))
end
end L2.My
end
section
set_option Elab.async false
set_option linter.all false
set_option maxRecDepth 100000
set_option maxHeartbeats 4000000
/-! Trees that grow: orders of nodes, leaves. -/
namespace L2.My
open PySem PySem.Spec PyProof.Rows PySem.W
/-! ### the order of nodes -/
def kl (p q : Nat × Nat) : Prop := p.1 < q.1 ∨ p.1 = q.1 ∧ p.2 < q.2
theorem kl_trans {p q r : Nat × Nat} (a : kl p q) (b : kl q r) : kl p r := by unfold kl at *; omega
theorem kl_ne {p q : Nat × Nat} (a : kl p q) : p ≠ q := by rintro rfl; unfold kl at a; omega
theorem lex2 (a b c d : Int) : HT.lexLt [a, b] [c, d] = decide (a < c ∨ a = c ∧ b < d) := by
  rw [HT.lexLt_cons, HT.lexLt_cons, HT.lexLt_nil_nil]
  by_cases h1 : a = c
  · by_cases h2 : b = d
    · simp [h1, h2]
    · simp [h1, h2]
  · simp [h1]
theorem lex_kl (m n : Nd) : HT.lexLt (nI2 m) (nI2 n) = true ↔ kl m.1 n.1 := by
  unfold nI2 kl
  rw [lex2, decide_eq_true_iff]
  omega
theorem asc_of_pw {α : Type} {lt : α → α → Bool} : ∀ {l : List α}, l.Pairwise (fun a b => lt a b = true) → ascBy lt l = true
  | [], _ => rfl
  | [x], _ => rfl
  | x :: y :: r, h => by
    obtain ⟨h1, h2⟩ := List.pairwise_cons.mp h
    show (lt x y && ascBy lt (y :: r)) = true
    rw [h1 y List.mem_cons_self, asc_of_pw h2]; rfl
theorem pw_of_asc {α : Type} {lt : α → α → Bool} (tr : ∀ a b c, lt a b = true → lt b c = true → lt a c = true) : ∀ {l : List α}, ascBy lt l = true → l.Pairwise (fun a b => lt a b = true)
  | [], _ => .nil
  | [x], _ => List.pairwise_singleton _ _
  | x :: y :: r, h => by
    obtain ⟨h1, h2⟩ := Bool.and_eq_true_iff.mp (show (lt x y && ascBy lt (y :: r)) = true from h)
    have ih := pw_of_asc tr h2
    refine List.pairwise_cons.mpr ⟨fun z hz => ?_, ih⟩
    rcases List.mem_cons.mp hz with rfl | hz
    · exact h1
    · exact tr _ _ _ h1 ((List.pairwise_cons.mp ih).1 z hz)
abbrev PwK (ns : List Nd) : Prop := ns.Pairwise fun m n => kl m.1 n.1
theorem pwK_iff {ns : List Nd} : ascBy HT.lexLt (ns.map nI2) = true ↔ PwK ns := by
  constructor
  · intro h
    have e : ascBy (fun m n : Nd => HT.lexLt (nI2 m) (nI2 n)) ns = true := by
      induction ns with
      | nil => rfl
      | cons x r ih =>
        cases r with
        | nil => rfl
        | cons y r =>
          obtain ⟨h1, h2⟩ := Bool.and_eq_true_iff.mp (show (HT.lexLt (nI2 x) (nI2 y) && ascBy HT.lexLt ((y :: r).map nI2)) = true from h)
          show (HT.lexLt (nI2 x) (nI2 y) && ascBy _ (y :: r)) = true
          rw [h1, ih h2]; rfl
    exact (pw_of_asc (fun a b c x y => (lex_kl a c).mpr (kl_trans ((lex_kl a b).mp x) ((lex_kl b c).mp y))) e).imp fun h => (lex_kl _ _).mp h
  · intro h
    exact asc_of_pw (List.pairwise_map.mpr (h.imp fun h => (lex_kl _ _).mpr h))
theorem pw_len : ∀ {l : List Nat} {N : Nat}, l.Pairwise (· < ·) → (∀ x ∈ l, x < N) → l.length ≤ N := fun {l N} h hb => by
  have e := asc_len (N := (N : Int)) (lo := 0) (asc_pw h) (fun x hx => by
    obtain ⟨j, hj, rfl⟩ := List.mem_map.mp hx
    have := hb j hj
    omega) (by omega)
  rw [List.length_map] at e
  omega
theorem nds_len {h : Nat} {ls : List Lf} {ns : List Nd} (h8 : h ≤ 8) (g : ∀ n ∈ ns, RowOk h ls n) (p : PwK ns) : ns.length ≤ 1152 := by
  have e := pw_len (l := ns.map fun n => n.1.1 * 128 + n.1.2) (N := 1152) (List.pairwise_map.mpr (p.imp_of_mem fun {m n} hm hn k => by
    have b1 := (g m hm).b128 h8
    have b2 := (g n hn).b128 h8
    unfold kl at k
    omega)) (fun x hx => by
    obtain ⟨n, hn, rfl⟩ := List.mem_map.mp hx
    have b1 := (g n hn).b128 h8
    have b2 := (g n hn).lh
    show n.1.1 * 128 + n.1.2 < 1152
    omega)
  rwa [List.length_map] at e
/-! ### leaves -/
theorem wds_app (l m : List Lf) : wds (l ++ m) = wds l ++ wds m := by
  unfold wds
  rw [List.filterMap_append, List.map_append]
theorem set_split {α : Type} {l : List α} {j : Nat} {x y : α} (h : l[j]? = some x) : l = l.take j ++ x :: l.drop (j + 1) ∧ l.set j y = l.take j ++ y :: l.drop (j + 1) := by
  obtain ⟨hj, e⟩ := List.getElem?_eq_some_iff.mp h
  refine ⟨?_, List.set_eq_take_append_cons_drop.trans (by rw [if_pos hj])⟩
  rw [← e]
  exact (List.take_append_drop j l).symm.trans (by rw [List.drop_eq_getElem_cons hj])
theorem wds_set {ls : List Lf} {j : Nat} {x y : Lf} (h : ls[j]? = some x) : ∃ a c, wds ls = a ++ (wds [x] ++ c) ∧ wds (ls.set j y) = a ++ (wds [y] ++ c) := by
  obtain ⟨e1, e2⟩ := set_split (y := y) h
  refine ⟨wds (ls.take j), wds (ls.drop (j + 1)), ?_, ?_⟩
  · conv => lhs; rw [e1]
    rw [wds_app, show x :: ls.drop (j + 1) = [x] ++ ls.drop (j + 1) from rfl, wds_app]
  · rw [e2, wds_app, show y :: ls.drop (j + 1) = [y] ++ ls.drop (j + 1) from rfl, wds_app]
theorem mem_set' {α : Type} {l : List α} {j : Nat} {x y : α} (h : x ∈ l.set j y) : x ∈ l ∨ x = y := (List.mem_or_eq_of_mem_set h)
theorem get_set {α : Type} {l : List α} {j i : Nat} {y : α} (h : i ≠ j) : (l.set j y)[i]? = l[i]? := List.getElem?_set_ne (Ne.symm h)
theorem get_set' {α : Type} {l : List α} {j : Nat} {x y : α} (h : l[j]? = some x) : (l.set j y)[j]? = some y := by
  obtain ⟨hj, _⟩ := List.getElem?_eq_some_iff.mp h
  rw [List.getElem?_set_self hj]
end L2.My
end
section
set_option Elab.async false
set_option linter.all false
set_option maxRecDepth 100000
set_option maxHeartbeats 4000000
/-! Trees that grow: what a deed makes of a tree is a tree. -/
namespace L2.My
open PySem PySem.Spec PyProof.Rows PySem.W
/-- room for one more -/
def grown (h : Nat) (ls : List Lf) : Nat × List Lf := if none ∈ ls then (h, ls) else (h + 1, ls ++ List.replicate ls.length none)
/-- the least blank leaf -/
def blankAt (ls : List Lf) : Nat := ls.findIdx fun l : Lf => l.isNone
abbrev leN (a b : Nat) : Bool := decide (a ≤ b)
def srtN (l : List Nat) : List Nat := l.mergeSort leN
theorem srtN_perm (l : List Nat) : (srtN l).Perm l := List.mergeSort_perm l leN
theorem srtN_le (l : List Nat) : (srtN l).Pairwise (· ≤ ·) := (List.pairwise_mergeSort (le := leN) (fun a b c x y => by simp only [leN, decide_eq_true_eq] at *; omega) (fun a b => by simp only [leN, Bool.or_eq_true, decide_eq_true_eq]; omega) l).imp fun h => by simpa [leN] using h
theorem srtN_lt {l : List Nat} (h : l.Nodup) : (srtN l).Pairwise (· < ·) := ((srtN_le l).and ((srtN_perm l).nodup_iff.mpr h)).imp fun ⟨a, b⟩ => by omega
theorem srt_uniq {l m : List Nat} (hm : m.Pairwise (· ≤ ·)) (p : l.Perm m) : srtN l = m := ((srtN_perm l).trans p).eq_of_pairwise (fun a b _ _ x y => by omega) (srtN_le l) hm
def addN (j : Nat) (n : Nd) : Nd := if j / 2 ^ n.1.1 = n.1.2 then (n.1, n.2.1, srtN (n.2.2 ++ [j])) else n
def offN (j : Nat) (n : Nd) : Bool := !decide (j / 2 ^ n.1.1 = n.1.2)
theorem addN_key (j : Nat) (n : Nd) : (addN j n).1 = n.1 := by unfold addN; split <;> rfl
theorem grown_mem (h : Nat) {ls : List Lf} (hl : 1 ≤ ls.length) : none ∈ (grown h ls).2 := by
  unfold grown
  split
  · assumption
  · exact List.mem_append_right _ (List.mem_replicate.mpr ⟨by omega, rfl⟩)
theorem blank_lt {ls : List Lf} (h : none ∈ ls) : blankAt ls < ls.length := List.findIdx_lt_length_of_exists ⟨none, h, rfl⟩
theorem blank_at {ls : List Lf} (h : none ∈ ls) : ls[blankAt ls]? = some none := by
  have hl := blank_lt h
  have e := List.findIdx_getElem (xs := ls) (p := fun l : Lf => l.isNone) (w := hl)
  rw [List.getElem?_eq_getElem hl]
  cases q : ls[blankAt ls] with
  | none => rfl
  | some p =>
    have e' : (ls[blankAt ls]).isNone = true := e
    rw [q] at e'
    cases e'
theorem blank_lo {ls : List Lf} {m : Nat} (h : m < blankAt ls) : ∃ p, ls[m]? = some (some p) := by
  have hl : m < ls.length := Nat.lt_of_lt_of_le h List.findIdx_le_length
  have e : (ls[m]).isNone = false := by
    have := List.not_of_lt_findIdx (xs := ls) (p := fun l : Lf => l.isNone) h
    simpa using this
  rw [List.getElem?_eq_getElem hl]
  cases q : ls[m] with
  | none => rw [q] at e; cases e
  | some p => exact ⟨p, rfl⟩
theorem wds_repl (n : Nat) : wds (List.replicate n none) = [] := by
  unfold wds
  induction n with
  | zero => rfl
  | succ n ih => rw [List.replicate_succ]; exact ih
theorem grown_wds (h : Nat) (ls : List Lf) : wds (grown h ls).2 = wds ls := by
  unfold grown
  split
  · rfl
  · rw [wds_app, wds_repl, List.append_nil]
theorem grown_le (h : Nat) (ls : List Lf) : h ≤ (grown h ls).1 ∧ ∀ (i : Nat) (p : Str × Int), ls[i]? = some (some p) → (grown h ls).2[i]? = some (some p) := by
  unfold grown
  split
  · exact ⟨Nat.le_refl _, fun _ _ h => h⟩
  · refine ⟨Nat.le_succ _, fun i p hp => ?_⟩
    rw [List.getElem?_append_left (List.getElem?_eq_some_iff.mp hp).1]
    exact hp
/-- a tree with room -/
theorem grown_ok {h : Nat} {ls : List Lf} {ns : List Nd} (d : DrT h ls ns) (hf : ¬ (h = 8 ∧ none ∉ ls)) : DrT (grown h ls).1 (grown h ls).2 ns := by
  have g := grown_le h ls
  have w := grown_wds h ls
  refine ⟨?_, ?_, ?_, ?_, fun n hn => ?_, d.asc, d.nl⟩
  · have := d.h8
    unfold grown
    split
    · exact this
    · rename_i z
      show h + 1 ≤ 8
      have : h ≠ 8 := fun e => hf ⟨e, z⟩
      omega
  · have := d.ll
    unfold grown
    split
    · exact this
    · show (ls ++ List.replicate ls.length none).length = 2 ^ (h + 1)
      rw [List.length_append, List.length_replicate, this, Nat.pow_succ]
      omega
  · unfold grown
    split
    · exact d.gl
    · intro l hl
      rcases List.mem_append.mp hl with z | z
      · exact d.gl l z
      · rw [(List.mem_replicate.mp z).2]
        intro z i e
        cases e
  · show (wds _).Nodup
    rw [w]
    exact d.nd
  · have r := d.gn n hn
    exact ⟨r.l1, Nat.le_trans r.lh g.1, Nat.lt_of_lt_of_le r.at' (Nat.pow_le_pow_right (by decide) (by have := g.1; omega)), r.k0, r.k1, r.pw, r.le, fun j hj => ⟨(r.as j hj).1, by
      obtain ⟨_, z, hz⟩ := r.as j hj
      exact ⟨z, g.2 j z hz⟩⟩⟩
/-- a member put in -/
theorem added_ok {h : Nat} {ls : List Lf} {ns : List Nd} {z : Str} {i : Int} {j : Nat} (d : DrT h ls ns) (hj : ls[j]? = some none) (hz : wordB z = true) (i0 : 0 ≤ i) (i1 : i ≤ maxI) (hn : z ∉ wds ls) : DrT h (ls.set j (some (z, i))) (ns.map (addN j)) := by
  obtain ⟨hjl, _⟩ := List.getElem?_eq_some_iff.mp hj
  have l256 := d.l256
  refine ⟨d.h8, by rw [List.length_set]; exact d.ll, fun l hl => ?_, ?_, fun n hn => ?_, ?_, by rw [List.length_map]; exact d.nl⟩
  · rcases mem_set' hl with e | e
    · exact d.gl l e
    · rw [e]
      intro y k q
      cases q
      exact ⟨hz, i0, i1⟩
  · show (wds _).Nodup
    obtain ⟨a, c, e1, e2⟩ := wds_set (y := some (z, i)) hj
    have nd : (wds ls).Nodup := d.nd
    rw [e1] at nd hn
    rw [e2]
    have ez : wds [some (z, i)] = [z] := rfl
    have en : wds [none] = [] := rfl
    rw [en, List.nil_append] at nd hn
    rw [ez]
    exact (List.perm_middle (a := z) (l₁ := a) (l₂ := c)).nodup_iff.mpr (List.nodup_cons.mpr ⟨hn, nd⟩)
  · obtain ⟨m, hm, rfl⟩ := List.mem_map.mp hn
    have r := d.gn m hm
    have keep : ∀ x : Nat, (∃ p : Str × Int, ls[x]? = some (some p)) → ∃ p : Str × Int, (ls.set j (some (z, i)))[x]? = some (some p) := fun x ⟨p, hp⟩ => by
      by_cases e : x = j
      · exact ⟨_, by rw [e]; exact get_set' hj⟩
      · exact ⟨p, (get_set e).trans hp⟩
    unfold addN
    split
    · rename_i ha
      have nj : j ∉ m.2.2 := fun q => by
        obtain ⟨_, p, hp⟩ := r.as j q
        rw [hj] at hp
        cases hp
      have nd : (m.2.2 ++ [j]).Nodup := by
        rw [List.nodup_append]
        exact ⟨r.pw.imp fun h => by omega, by simp, fun x hx y hy => by rw [List.mem_singleton.mp hy]; rintro rfl; exact nj hx⟩
      have as : ∀ x ∈ srtN (m.2.2 ++ [j]), x / 2 ^ m.1.1 = m.1.2 ∧ ∃ p, (ls.set j (some (z, i)))[x]? = some (some p) := fun x hx => by
        rcases List.mem_append.mp ((srtN_perm _).mem_iff.mp hx) with q | q
        · exact ⟨(r.as x q).1, keep x (r.as x q).2⟩
        · rw [List.mem_singleton.mp q]
          exact ⟨ha, _, get_set' hj⟩
      refine ⟨r.l1, r.lh, r.at', r.k0, r.k1, srtN_lt nd, pw_len (srtN_lt nd) fun x hx => ?_, as⟩
      obtain ⟨_, p, hp⟩ := as x hx
      have := (List.getElem?_eq_some_iff.mp hp).1
      rw [List.length_set] at this
      omega
    · exact ⟨r.l1, r.lh, r.at', r.k0, r.k1, r.pw, r.le, fun x hx => ⟨(r.as x hx).1, keep x (r.as x hx).2⟩⟩
  · rw [List.map_map, show nI2 ∘ addN j = nI2 from funext fun n => by show nI2 (addN j n) = nI2 n; unfold nI2; rw [addN_key]]
    exact d.asc
theorem pwK_of {h : Nat} {ls : List Lf} {ns : List Nd} (d : DrT h ls ns) : PwK ns := pwK_iff.mp d.asc
/-- a member taken out -/
theorem gone_ok {h : Nat} {ls : List Lf} {ns : List Nd} {j : Nat} {p : Str × Int} (d : DrT h ls ns) (hj : ls[j]? = some (some p)) : DrT h (ls.set j none) (ns.filter (offN j)) := by
  refine ⟨d.h8, by rw [List.length_set]; exact d.ll, fun l hl => ?_, ?_, fun n hn => ?_, pwK_iff.mpr ((pwK_of d).sublist List.filter_sublist), Nat.le_trans (List.length_filter_le _ _) d.nl⟩
  · rcases mem_set' hl with e | e
    · exact d.gl l e
    · rw [e]
      intro y k q
      cases q
  · show (wds _).Nodup
    obtain ⟨a, c, e1, e2⟩ := wds_set (y := none) hj
    have nd : (wds ls).Nodup := d.nd
    rw [e1] at nd
    rw [e2]
    have ez : wds [some p] = [p.1] := rfl
    have en : wds [none] = [] := rfl
    rw [ez] at nd
    rw [en, List.nil_append]
    exact (List.nodup_cons.mp ((List.perm_middle (a := p.1) (l₁ := a) (l₂ := c)).nodup_iff.mp nd)).2
  · obtain ⟨h1, h2⟩ := List.mem_filter.mp hn
    have r := d.gn n h1
    have h3 : j / 2 ^ n.1.1 ≠ n.1.2 := by unfold offN at h2; simpa using h2
    refine ⟨r.l1, r.lh, r.at', r.k0, r.k1, r.pw, r.le, fun x hx => ⟨(r.as x hx).1, ?_⟩⟩
    have e : x ≠ j := fun e => h3 (by rw [← e]; exact (r.as x hx).1)
    rw [get_set e]
    exact (r.as x hx).2
/-- the nodes above a leaf, with other locks -/
def upN (j : Nat) (ks : List Int) (h : Nat) : List Nd := (List.range h).map fun k => ((k + 1, j / 2 ^ (k + 1)), ks.getD (k + 1) 0, [])
def leNd : Nd → Nd → Bool := dataLe false dNd
def newN (j : Nat) (ks : List Int) (h : Nat) (ns : List Nd) : List Nd := (ns.filter (offN j) ++ upN j ks h).mergeSort leNd
theorem alike_nats (l m : List Nat) : alikeAll (l.map fun (j : Nat) => PyData.int j) (m.map fun (j : Nat) => PyData.int j) = true := by
  have e : ∀ l : List Nat, (l.map fun (j : Nat) => PyData.int j) = (l.map fun (j : Nat) => (j : Int)).map PyData.int := fun l => by rw [List.map_map]; rfl
  rw [e, e]
  exact alike_ints _ _
theorem alike_nd (m n : Nd) : alike (dNd m) (dNd n) = true := by
  simp [dNd, dNats, alike, alikeAll, alike_nats]
theorem lt_nd {m n : Nd} (hk : m.1 ≠ n.1) : dataLt (dNd m) (dNd n) = true ↔ kl m.1 n.1 := by
  unfold dNd
  rw [dataLt_tuple, dataLt_cons (by simp [alike, alikeAll])]
  have e : PyData.eqv (.tuple [.int (m.1.1 : Nat), .int (m.1.2 : Nat)]) (.tuple [.int (n.1.1 : Nat), .int (n.1.2 : Nat)]) = false := by
    rw [PyData.eqv, PyData.eqvAll, PyData.eqvAll, PyData.eqvAll, eqv_int, eqv_int, Bool.and_true, ← Bool.decide_and]
    refine decide_eq_false fun ⟨a, b⟩ => hk (Prod.ext (by omega) (by omega))
  rw [e, if_neg Bool.false_ne_true, dataLt_ii, decide_eq_true_iff]
  unfold kl
  omega
theorem leNd_tr (a b c : Nd) (x : leNd a b = true) (y : leNd b c = true) : leNd a c = true := by
  have x' : (!dataLt (dNd b) (dNd a)) = true := x
  have y' : (!dataLt (dNd c) (dNd b)) = true := y
  show (!dataLt (dNd c) (dNd a)) = true
  rw [Bool.not_eq_true'] at *
  cases z : dataLt (dNd c) (dNd a) with
  | false => rfl
  | true =>
    rcases lex_negTrans (O := itemOrd) _ (keyToks (dNd b)) _ z with q | q
    · rw [show dataLt (dNd c) (dNd b) = true from q] at y'; cases y'
    · rw [show dataLt (dNd b) (dNd a) = true from q] at x'; cases x'
theorem leNd_tot (a b : Nd) : (leNd a b || leNd b a) = true := by
  show ((!dataLt (dNd b) (dNd a)) || (!dataLt (dNd a) (dNd b))) = true
  cases z : dataLt (dNd b) (dNd a) with
  | false => rfl
  | true =>
    cases y : dataLt (dNd a) (dNd b) with
    | false => rfl
    | true =>
      have q : dataLt (dNd a) (dNd a) = true := lex_trans _ _ _ y z
      rw [show dataLt (dNd a) (dNd a) = false from lex_irrefl _] at q
      cases q
theorem srtK {ns : List Nd} (hn : (ns.map (·.1)).Nodup) : PwK (ns.mergeSort leNd) := by
  have p := List.mergeSort_perm ns leNd
  have s := List.pairwise_mergeSort leNd_tr leNd_tot ns
  have nd := (p.map (·.1)).nodup_iff.mpr hn
  refine (s.and (List.pairwise_map.mp nd)).imp fun {a b} ⟨h1, h2⟩ => ?_
  have h1' : (!dataLt (dNd b) (dNd a)) = true := h1
  have h3 : ¬ kl b.1 a.1 := fun q => by
    rw [(lt_nd (Ne.symm h2)).mpr q] at h1'
    cases h1'
  have h4 : ¬ (a.1.1 = b.1.1 ∧ a.1.2 = b.1.2) := fun ⟨x, y⟩ => h2 (Prod.ext x y)
  unfold kl at *
  omega
theorem up_keys (j : Nat) (ks : List Int) (h : Nat) (ns : List Nd) (nd : (ns.map (·.1)).Nodup) : ((ns.filter (offN j) ++ upN j ks h).map (·.1)).Nodup := by
  rw [List.map_append, List.nodup_append]
  refine ⟨nd.sublist (List.filter_sublist.map _), ?_, fun x hx y hy => ?_⟩
  · unfold upN
    rw [List.map_map]
    refine List.pairwise_map.mpr (List.pairwise_lt_range.imp fun {a b} hab e => ?_)
    have : a + 1 = b + 1 := congrArg Prod.fst e
    omega
  · obtain ⟨n, hn, rfl⟩ := List.mem_map.mp hx
    obtain ⟨m, hm, rfl⟩ := List.mem_map.mp hy
    obtain ⟨k, _, rfl⟩ := List.mem_map.mp hm
    have h2 := (List.mem_filter.mp hn).2
    intro e
    unfold offN at h2
    rw [e] at h2
    simp at h2
/-- other locks -/
theorem new_ok {h : Nat} {ls : List Lf} {ns : List Nd} {j : Nat} {z : Str} {i i2 : Int} {ks : List Int} (d : DrT h ls ns) (hj : ls[j]? = some (some (z, i))) (i0 : 0 ≤ i2) (i1 : i2 ≤ maxI) (hk : ∀ k ∈ ks, 0 ≤ k ∧ k ≤ maxI) : DrT h (ls.set j (some (z, i2))) (newN j ks h ns) := by
  have pk := pwK_of d
  have nd : (ns.map (·.1)).Nodup := List.pairwise_map.mpr (pk.imp kl_ne)
  have hp := List.mergeSort_perm (ns.filter (offN j) ++ upN j ks h) leNd
  have hs := srtK (up_keys j ks h ns nd)
  obtain ⟨hjl, _⟩ := List.getElem?_eq_some_iff.mp hj
  have gn : ∀ n ∈ newN j ks h ns, RowOk h (ls.set j (some (z, i2))) n := fun n hn => by
    rcases List.mem_append.mp (hp.mem_iff.mp hn) with q | q
    · have r := d.gn n (List.mem_filter.mp q).1
      refine ⟨r.l1, r.lh, r.at', r.k0, r.k1, r.pw, r.le, fun x hx => ⟨(r.as x hx).1, ?_⟩⟩
      by_cases e : x = j
      · exact ⟨_, by rw [e]; exact get_set' hj⟩
      · rw [get_set e]; exact (r.as x hx).2
    · obtain ⟨k, hkr, rfl⟩ := List.mem_map.mp q
      rw [List.mem_range] at hkr
      have g0 : 0 ≤ ks.getD (k + 1) 0 ∧ ks.getD (k + 1) 0 ≤ maxI := by
        rw [List.getD_eq_getElem?_getD]
        cases e : ks[k + 1]? with
        | none => exact ⟨Int.le_refl _, by decide⟩
        | some y => exact hk y (List.mem_of_getElem? e)
      refine ⟨Nat.le_add_left 1 k, hkr, ?_, g0.1, g0.2, .nil, Nat.zero_le _, fun x hx => nomatch hx⟩
      show j / 2 ^ (k + 1) < 2 ^ (h - (k + 1))
      rw [Nat.div_lt_iff_lt_mul (Nat.two_pow_pos _), ← Nat.pow_add, Nat.sub_add_cancel (by omega), ← d.ll]
      exact hjl
  refine ⟨d.h8, by rw [List.length_set]; exact d.ll, fun l hl => ?_, ?_, gn, pwK_iff.mpr hs, nds_len d.h8 gn hs⟩
  · rcases mem_set' hl with e | e
    · exact d.gl l e
    · rw [e]
      intro y k q
      cases q
      exact ⟨(d.gl _ (List.mem_of_getElem? hj) z i rfl).1, i0, i1⟩
  · show (wds _).Nodup
    obtain ⟨a, c, e1, e2⟩ := wds_set (y := some (z, i2)) hj
    have nd2 : (wds ls).Nodup := d.nd
    rw [e1] at nd2
    rw [e2]
    exact nd2
end L2.My
end
section
set_option Elab.async false
set_option linter.all false
set_option maxRecDepth 100000
set_option maxHeartbeats 4000000
/-! check_member, without_member. -/
namespace L2.My
open PySem PySem.Spec PyProof.Rows
abbrev sCm : Stmt := top 26
abbrev sWo : Stmt := top 29
/-- a leaf with a member -/
def hasM (ls : List Lf) (v : V) : Bool := belowV (ls.length : Int) v && (ls.getD (iV v) none).isSome
theorem hasM_at {ls : List Lf} {v : V} (h : hasM ls v = true) : ∃ (j : Nat) (p : Str × Int), v = .int (j : Nat) ∧ iV v = j ∧ ls[j]? = some (some p) := by
  obtain ⟨h1, h2⟩ := Bool.and_eq_true_iff.mp h
  obtain ⟨b1, b2, _⟩ := below_int h1
  have hl : iV v < ls.length := by omega
  rw [List.getD_eq_getElem?_getD, List.getElem?_eq_getElem hl] at h2
  obtain ⟨p, hp⟩ := Option.isSome_iff_exists.mp h2
  exact ⟨iV v, p, b1, rfl, by rw [List.getElem?_eq_getElem hl]; exact congrArg some hp⟩
def spCm (C NL : Addr) : Sp := fun vs H Q E => ∃ b x h ls ns v, vs = [.ref x, v] ∧ TrIn C H x h ls ns ∧ DrT h ls ns ∧ Thg b H v ∧ (hasM ls v = true → Q .non H) ∧ (hasM ls v = false → E (.ref NL) none H)
def spWo (C NL : Addr) : Sp := fun vs H Q E => ∃ b g x h ls ns v, vs = [.ref x, v] ∧ BoxAt H b g ∧ TrIn C H x h ls ns ∧ DrT h ls ns ∧ Thg b H v ∧
  (hasM ls v = true → ∀ H' y, Same H H' → TrIn C H' y h (ls.set (iV v) none) (ns.filter (offN (iV v))) → Q (.ref y) H') ∧ (hasM ls v = false → E (.ref NL) none H)
/-- a tuple that may be read -/
def TR (K : PySem.W.Frag) (H : Hp) (a : Addr) (xs : List V) : Prop := (H a = some (.tup xs) ∨ TF H a xs)
theorem TR.same {K : PySem.W.Frag} {H H' : Hp} {a : Addr} {xs : List V} (h : TR K H a xs) (s : Same H H') : TR K H' a xs := h.elim (fun h => .inl (s _ _ h)) fun h => .inr (h.same s)
theorem TR.sq {K : PySem.W.Frag} {H : Hp} {a : Addr} {xs : List V} (h : TR K H a xs) : SqT K H a xs := h.elim (fun h => .of h) fun h => h.sq
theorem slc_sq {K : PySem.W.Frag} {H : Hp} {a : Addr} {xs : List V} {lo hi : Option Int} {Q : VK} (ha : TF H a xs) (h : ∀ c G, Same H G → TR K G c (cutV xs lo hi) → Q (.ref c) G) : rSlA K (.ref a) lo hi H Q := by
  refine ⟨a, xs, rfl, ha.sq, fun w => h a H (Same.refl _) (.inr ?_), fun _ x nx => h x _ (same_upd nx) (.inl upd_same)⟩
  unfold cutV
  rw [w.1, w.2, List.drop_zero, Nat.sub_zero, List.take_length]
  exact ha
theorem catF_ref {K : PySem.W.Frag} {H : Hp} {a b : Addr} {xs ys : List V} {Q : VK} (ha : TR K H a xs) (hb : TF H b ys) (hy : ys ≠ []) (hl : xs.length + ys.length ≤ sizeLine) (h : ∀ c G, Same H G → TF G c (xs ++ ys) → Q (.ref c) G) : rCatF K (.ref a) (.ref b) H Q :=
  ⟨a, b, xs, ys, rfl, rfl, ha.sq, hb.sq, hl, fun e => h b H (Same.refl _) (by rw [e]; exact hb), fun _ e => absurd e hy, fun _ _ x o ho nx => h x _ (same_upd nx) ⟨o, ho, upd_same⟩⟩
theorem catF_lf {K : PySem.W.Frag} {H : Hp} {a b : Addr} {xs ys : List V} {Q : VK} (ha : TF H a xs) (hb : TR K H b ys) (hx : xs ≠ []) (hl : xs.length + ys.length ≤ sizeLine) (h : ∀ c G, Same H G → TF G c (xs ++ ys) → Q (.ref c) G) : rCatF K (.ref a) (.ref b) H Q :=
  ⟨a, b, xs, ys, rfl, rfl, ha.sq, hb.sq, hl, fun e => absurd e hx, fun _ e => h a H (Same.refl _) (by rw [e, List.append_nil]; exact ha), fun _ _ x o ho nx => h x _ (same_upd nx) ⟨o, ho, upd_same⟩⟩
/-- the parts of a row about a place, another thing at it -/
theorem slices3 {K : PySem.W.Frag} {tL tI tT : TE} {σ : St} {la : Addr} {xs : List V} {n : Nat} {H : Hp} {Q : VK} {Rel : Hp → V → Prop} (ha : TF H la xs) (hn : n < xs.length) (hl : xs.length ≤ 5000)
    (hR : ∀ G G' v, Same G G' → Rel G v → Rel G' v) (hL : ∀ G (Q : VK), Same H G → Q (.ref la) G → tL σ G Q) (hI : ∀ G (Q : VK), Same H G → Q (.int (n : Nat)) G → tI σ G Q)
    (hT : ∀ G (Q : VK), Same H G → (∀ G' p v, Same G G' → TF G' p [v] → Rel G' v → Q (.ref p) G') → tT σ G Q)
    (q : ∀ G c v, Same H G → TF G c (xs.set n v) → Rel G v → Q (.ref c) G) :
    tOp (rCatF K) (tOp (rCatF K) (tSl (rSlA K) tL tNoPart (tPart tI)) tT) (tSl (rSlA K) tL (tPart (tOp (rI0 fun i j => .int (i + j)) tI (tC (.int 1)))) tNoPart) σ H Q := by
  have c1 : cutV xs none (some ((n : Nat) : Int)) = xs.take n := by
    unfold cutV
    rw [HT.sIx_nat]
    show (xs.drop 0).take (min n xs.length - 0) = _
    rw [List.drop_zero, Nat.sub_zero, Nat.min_eq_left (by omega)]
  have c2 : cutV xs (some (((n : Nat) : Int) + 1)) none = xs.drop (n + 1) := by
    have e : (((n : Nat) : Int) + 1) = ((n + 1 : Nat) : Int) := rfl
    rw [e]
    unfold cutV
    rw [HT.sIx_nat]
    show (xs.drop (min (n + 1) xs.length)).take (xs.length - min (n + 1) xs.length) = _
    rw [Nat.min_eq_left (by omega), List.take_of_length_le (by rw [List.length_drop]; exact Nat.le_refl _)]
  refine hL H _ (Same.refl _) ?_
  dsimp only [tNoPart]
  refine hI H _ (Same.refl _) ⟨_, rfl, slc_sq (K := K) ha fun c1a G1 s1 h1 => ?_⟩
  rw [c1] at h1
  refine hT G1 _ s1 fun G2 p v s2 hp hv => ?_
  refine catF_ref (h1.same s2) hp (by simp) (Nat.le_trans (show (xs.take n).length + 1 ≤ 5001 by rw [List.length_take]; omega) (by decide)) fun c2a G3 s3 h3 => ?_
  have s13 := s1.trans (s2.trans s3)
  refine hL G3 _ s13 (hI G3 _ s13 ⟨_, _, rfl, rfl, _, rfl, ?_⟩)
  dsimp only [tNoPart]
  refine slc_sq (K := K) (ha.same s13) fun c3a G4 s4 h4 => ?_
  rw [c2] at h4
  refine catF_lf (h3.same s4) h4 (by simp) (Nat.le_trans (show (xs.take n ++ [v]).length + (xs.drop (n + 1)).length ≤ 5001 by rw [List.length_append, List.length_take, List.length_drop, List.length_singleton]; omega) (by decide)) fun c5 G5 s5 h5 => ?_
  refine q G5 c5 v (s13.trans (s4.trans s5)) ?_ (hR _ _ _ (s3.trans (s4.trans s5)) hv)
  rw [List.append_assoc, List.singleton_append] at h5
  rw [List.set_eq_take_append_cons_drop, if_pos hn]
  exact h5
theorem paired_set {α : Type} {R : V → α → Prop} {xs : List V} {ys : List α} {n : Nat} {x : V} {y : α} (h : Paired R xs ys) (r : R x y) : Paired R (xs.set n x) (ys.set n y) := by
  induction h generalizing n with
  | nil => exact .nil
  | cons h1 h2 ih =>
    cases n with
    | zero => exact .cons r h2
    | succ n => exact .cons h1 ih
theorem off_test (j : Nat) (m : Nd) : (!decide (V.int (((j : Nat) : Int) / 2 ^ ((m.1.1 : Nat) : Int).toNat) = V.int (m.1.2 : Nat))) = offN j m := by
  have e : ((j : Nat) : Int) / 2 ^ ((m.1.1 : Nat) : Int).toNat = ((j / 2 ^ m.1.1 : Nat) : Int) := by
    rw [Int.toNat_natCast]; push_cast; rfl
  unfold offN
  rw [e, dec_int]
  congr 1
  rw [Bool.eq_iff_iff, beq_iff_eq, decide_eq_true_iff]
  omega
/-- Tree(..), of right parts -/
theorem mk_core {C B b : Addr} {h : Nat} {la na : Addr} {ls : List Lf} {ns : List Nd} {H : Hp} {R : Addr → Hp → Prop} {E : XK} (nb : NoTup H b) (hL : LvsAt H la ls) (hN : NdsAt H na ns) (d : DrT h ls ns) (q : ∀ H' x, Same H H' → TrIn C H' x h ls ns → R x H') :
    ∀ x dx, H x = none → H dx = none → dx ≠ x → spTree C B [.ref x, .int (h : Nat), .ref la, .ref na] (upd (upd H dx (.own x)) x (.ins C dx [])) (fun v H2 => v = .non ∧ R x H2) E := by
  intro x dx nx ndx ne
  have s1 : Same H (upd (upd H dx (.own x)) x (.ins C dx [])) := (same_upd ndx).trans (same_upd (by rw [upd_ne (Ne.symm ne)]; exact nx))
  obtain ⟨vs, ha, hp⟩ := id hL
  have tl := thg_lvs nb hp d.gl
  have tn := thg_nds nb hN d
  have tk : TK H _ := .same s1
  refine ⟨b, x, dx, h, la, vs, .ref na, rfl, upd_same, d.h8, ha.same s1, fun y hy => (tl y hy).same s1, leaves_ok (Paired.mapP hp fun _ _ r => r.tk tk) d, tn.same s1, nodes_ok (Paired.mapP hp fun _ _ r => r.tk tk) (hN.tk tk) d, fun H' bl hx' => ⟨rfl, ?_⟩⟩
  have s3 : Same H H' := fun p o hp => bl p o (by
    intro hm
    rw [List.mem_singleton.mp hm, nx] at hp
    cases hp) (s1 _ _ hp)
  exact q H' x s3 ⟨dx, la, na, hx', hL.tk (.same s3), hN.tk (.same s3)⟩
section
variable {P : Program} {w : World} {K : PySem.W.Frag} {mg : Str → Option Value} {base : Heap} {C B NL : Addr}
theorem scCm : FnScope ["tree", "leaf"] ["tree", "leaf"] (defScope sCm) := ⟨rfl, rfl, rfl, by decide +kernel, rfl, by decide +kernel, by decide +kernel⟩
theorem ok_cm {f : Addr} {fd : FuncData} {k : Nat} (F : Fun K "check_member" "check_member" sCm f fd) (T : Tx mg) (c : TrC K C) (N : NoC P w K mg base "NoLeaf" NL) (cC : CalX P w K mg base (k + 3) "check_leaf" ["tree", "leaf"] (spChk C NL)) : FnOk P w K mg base (CX P w) (k + 4) f fd ["tree", "leaf"] (spCm C NL) := by
  refine F.okX scCm (fun vs H Q E h => ?_) (fun cdv A outer s H vs Q E hr h => ?_)
  · obtain ⟨b, x, h, ls, ns, v, rfl, _⟩ := h
    rfl
  · obtain ⟨b, x, h, ls, ns, v, rfl, hT, d, hv, q, qe⟩ := h
    have tk := takes_of (X := cxOf (CX P w) P w K mg base ["tree", "leaf"] "check_member" (defScope sCm) f cdv A outer s H E) (E := E) rfl rfl rfl rfl
    refine ⟨_, (pss_cons (ps_expr (pe_cx cC hr (by omega) (by rfl) (passes_call tk (E := E) fun _ _ _ _ h => h) (pa_cons (pv 0) (pa_cons (pv 1) pa_nil)))) (pss_one (ps_if (pt_cmpR op_isN (pe_ix ix_tup (pe_fld (pv 0) rfl) (pv 1) (fun _ _ => rfl)) pe_non (nomark _)) (pss_one (ps_raise rfl tk (pmk_no N.i rfl (hr.mono (by omega)) (by rfl) N.g))) pss_nil))), ?_⟩
    obtain ⟨dx, la, na, hx, ⟨lv, hla, hlp⟩, hN⟩ := id hT
    refine ⟨_, rfl, _, rfl, b, x, h, ls, ns, v, rfl, hT, d, hv, fun hb => ?_, fun hb => qe (by unfold hasM; rw [hb]; rfl)⟩
    obtain ⟨b1, b2, _⟩ := below_int hb
    have hl : iV v < ls.length := by omega
    obtain ⟨xv, hxv, hlf⟩ := Paired.at hlp (List.getElem?_eq_getElem hl)
    have eh : hasM ls v = (ls[iV v]).isSome := by
      unfold hasM
      rw [hb, List.getD_eq_getElem?_getD, List.getElem?_eq_getElem hl]
      rfl
    rw [eh] at q qe
    generalize iV v = j at *
    subst b1
    refine ⟨_, rfl, x, C, dx, _, _, rfl, hx, c.cls, c.na _ (by simp), rfl, _, rfl, la, lv, _, xv, rfl, rfl, hla.sq, atI_nat hxv, rfl, _, rfl, ?_⟩
    have en := lf_non hlf
    rw [show decide (xv = V.non) = !notNon xv by rw [← nonN, Bool.not_not], en]
    cases hs : ls[j].isSome with
    | true => exact iteF (q hs)
    | false => exact iteT ⟨fun _ h => h, qe hs⟩
theorem scWo : FnScope ["tree", "leaf", "leaves", "nodes", "row"] ["tree", "leaf"] (defScope sWo) := ⟨rfl, rfl, rfl, by decide +kernel, rfl, by decide +kernel, by decide +kernel⟩
theorem ok_wo {f : Addr} {fd : FuncData} {k : Nat} (F : Fun K "without_member" "without_member" sWo f fd) (T : Tx mg) (c : TrC K C) (R : MkT P w K mg base (k + 5) C B) (cM : CalX P w K mg base (k + 4) "check_member" ["tree", "leaf"] (spCm C NL)) : FnOk P w K mg base (CX P w) (k + 7) f fd ["tree", "leaf"] (spWo C NL) := by
  refine F.okX scWo (fun vs H Q E h => ?_) (fun cdv A outer s H vs Q E hr h => ?_)
  · obtain ⟨b, g, x, h, ls, ns, v, rfl, _⟩ := h
    rfl
  · obtain ⟨b, g, x, h, ls, ns, v, rfl, nb, hT, d, hv, q, qe⟩ := h
    have tk := takes_of (X := cxOf (CX P w) P w K mg base ["tree", "leaf", "leaves", "nodes", "row"] "without_member" (defScope sWo) f cdv A outer s H E) (E := E) rfl rfl rfl rfl
    refine ⟨_, (pss_cons (ps_expr (pe_cx cM hr (by omega) (by rfl) (passes_call tk (E := E) fun _ _ _ _ h => h) (pa_cons (pv 0) (pa_cons (pv 1) pa_nil)))) (pss_cons (ps_set (i := 2) scWo.nd rfl (Or.inl rfl) (pe_op op_catF (pe_op op_catF (pe_slice sl_tupA (pe_fld (pv 0) rfl) po_none (po_some (pv 1))) (pe_tupF (pa_cons pe_non pa_nil))) (pe_slice sl_tupA (pe_fld (pv 0) rfl) (po_some (pe_op op_add (pv 1) pe_int)) po_none))) (pss_cons (ps_setLc (own := [("row", 4)]) (i := 3) (g := gName 4) (te := tVar 4) (tt := tTest (tOp rNe (tOp rShr (tVar 1) (tOp (rIxT K) (tOp (rIxT K) (tVar 4) (tC (.int 0))) (tC (.int 0)))) (tOp (rIxT K) (tOp (rIxT K) (tVar 4) (tC (.int 0))) (tC (.int 1))))) rfl scWo.nd rfl rfl (sw_true rfl rfl rfl (by decide +kernel)) (pi_tup (pe_fld (pv 0) rfl)) (blkOk_by (N := ["tree", "leaf", "leaves", "nodes", "row"]) (sc := defScope sWo) (by decide +kernel)) (fun _ _ _ _ _ => pg_name (i := 4) scWo.nd rfl (Or.inl rfl)) (fun _ _ _ _ _ => (pts_one (pt_cmpR op_ne (pe_op op_shr (pv 1) (pe_ix ix_tup (pe_ix ix_tup (pv 4) pe_int (fun _ _ => rfl)) pe_int (fun _ _ => rfl))) (pe_ix ix_tup (pe_ix ix_tup (pv 4) pe_int (fun _ _ => rfl)) pe_int (fun _ _ => rfl)) (nomark _)))) (fun _ _ _ _ _ => (pv 4))) (pss_one (ps_ret (pe_make R.M R.F (hr.mono (by omega)) (by rfl) R.g R.b .nil pass_no (pa_cons (pe_fld (pv 0) rfl) (pa_cons (pv 2) (pa_cons (pe_tupleOf (by rfl) T.tuple_ (pv 3)) pa_nil))))))))), ?_⟩
    obtain ⟨dx, la, na, hx, ⟨lv, hla, hlp⟩, ⟨wv, hna, hnp⟩⟩ := id hT
    refine ⟨_, rfl, _, rfl, b, x, h, ls, ns, v, rfl, hT, d, hv, fun hb => ?_, qe⟩
    obtain ⟨j, p, rfl, ej, hj⟩ := hasM_at hb
    have q := q hb
    rw [ej] at q
    have l256 := d.l256
    have hlv := Paired.len hlp
    have hlw := Paired.len hnp
    have hjl : j < ls.length := (List.getElem?_eq_some_iff.mp hj).1
    have hx' : ∀ G, Same H G → G x = some (.ins C dx [("height", .int (h : Nat)), ("leaves", .ref la), ("nodes", .ref na)]) := fun G s => s _ _ hx
    dsimp only
    refine seq_set (slices3 (la := la) (xs := lv) (n := j) (Rel := fun _ v => v = .non) hla (by omega) (by omega) (fun _ _ _ _ h => h) (fun G Q s q => ⟨_, rfl, x, C, dx, _, _, rfl, hx' G s, c.cls, c.na _ (by simp), rfl, q⟩) (fun G Q s q => ⟨_, rfl, q⟩)
      (fun G Q s q => ⟨by show 1 ≤ sizeLine; decide, fun p o ho np => q _ p _ (same_upd np) ⟨o, ho, upd_same⟩ rfl⟩) (fun G2 l2 v s2 hl2 hv2 => ?_))
    subst hv2
    have hna2 := s2 _ _ hna
    have hx2 := s2 _ _ hx
    have tk2 : TK H G2 := .same s2
    have hnp2 := Paired.mapP hnp fun _ _ r => r.tk tk2
    have hL2 : LvsAt G2 l2 (ls.set j none) := ⟨_, hl2, paired_set (Paired.mapP hlp fun _ _ r => r.tk tk2) rfl⟩
    have hnl := d.nl
    refine ⟨_, rfl, x, C, dx, _, _, rfl, hx2, c.cls, c.na _ (by simp), rfl, na, rfl, ⟨_, .of hna2⟩, fun D nD => ?_⟩
    refine lc_it (walk_tup (xs := wv)) (fun i G => Same G2 G ∧ ∃ us, G D = some (.lst us) ∧ us.length ≤ i ∧ Paired (NdAt G) us ((ns.take i).filter (offN j))) ⟨same_upd nD, [], upd_same, Nat.le_refl _, .nil⟩ (fun i G _ hG => .of (hG.1 _ _ hna2)) ?_ ?_
    · rintro i y G G' hi ⟨sm, us, hD, hul, hup⟩ ⟨rfl, hy⟩
      obtain ⟨m, hm, hnd⟩ := Paired.at' hnp2 hy
      obtain ⟨a, nda, ca, rfl, h1, h2, h3⟩ := id hnd
      refine ⟨rfl, _, rfl, _, rfl, a, _, _, .ref nda, rfl, rfl, .of (sm _ _ h1), atI_nat (j := 0) rfl, nda, _, _, .int (m.1.1 : Nat), rfl, rfl, .of (sm _ _ h2), atI_nat (j := 0) rfl, _, _, rfl, rfl, by omega, _, rfl, a, _, _, .ref nda, rfl, rfl, .of (sm _ _ h1), atI_nat (j := 0) rfl, nda, _, _, .int (m.1.2 : Nat), rfl, rfl, .of (sm _ _ h2), atI_nat (j := 1) rfl, rfl, _, rfl, ?_⟩
      rw [off_test, take_snoc hm, List.filter_append]
      have hw : us.length < sizeLine := Nat.lt_of_le_of_lt (show us.length ≤ 1152 by omega) (by decide)
      cases ho : offN j m with
      | false =>
        refine iteF ⟨sm, us, hD, by omega, ?_⟩
        rw [List.filter_cons_of_neg (by rw [ho]; exact Bool.false_ne_true), List.filter_nil, List.append_nil]
        exact hup
      | true =>
        have tk3 : TK G' (upd G' D (.lst (us ++ [.ref a]))) := .upd hD (fun _ e => by cases e)
        refine iteT ⟨_, rfl, us, hD, hw, same_put sm nD, us ++ [.ref a], upd_same, by rw [List.length_append, List.length_singleton]; omega, ?_⟩
        rw [List.filter_cons_of_pos ho, List.filter_nil]
        exact Paired.snoc (Paired.mapP hup fun _ _ r => r.tk tk3) ((hnd.tk (.same sm)).tk tk3)
    · rintro G ⟨sm, us, hD, hul, hup⟩
      rw [hlw, List.take_length] at hup
      have hxG := sm _ _ hx2
      refine ⟨_, rfl, x, C, dx, _, _, rfl, hxG, c.cls, c.na _ (by simp), rfl, _, rfl, _, rfl, .inl ⟨D, us, rfl, .of hD, fun t nt => ?_⟩⟩
      have su := same_upd (o := HO.tup us) nt
      have s3 := sm.trans su
      exact mk_core (b := b) (nb.same (s2.trans s3)).nt (hL2.tk (.same s3)) ⟨us, upd_same, Paired.mapP hup fun _ _ r => r.tk (.same su)⟩ (gone_ok d hj) fun H' y s4 hy => q H' y (s2.trans (s3.trans s4)) hy
end
end L2.My
end
section
set_option Elab.async false
set_option linter.all false
set_option maxRecDepth 100000
set_option maxHeartbeats 4000000
/-! renewed. -/
namespace L2.My
open PySem PySem.Spec PyProof.Rows PySem.W
abbrev sRn : Stmt := top 30
/-- locks for a path -/
def lksV (H : Hp) (n : Nat) (v : V) : Option (List Int) := match tupOf H v with
  | some xs => if xs.length = n ∧ xs.all numV = true then some (xs.map intV) else none
  | none => none
theorem lks_no {H : Hp} {n : Nat} {v : V} (e : tupOf H v = none) : lksV H n v = none := by unfold lksV; rw [e]
theorem lks_at {H : Hp} {n : Nat} {v : V} {xs : List V} (e : tupOf H v = some xs) : lksV H n v = if xs.length = n ∧ xs.all numV = true then some (xs.map intV) else none := by unfold lksV; rw [e]
theorem num_int {v : V} (h : numV v = true) : v = .int (intV v) ∧ 0 ≤ intV v := by
  cases v with
  | int i => exact ⟨rfl, of_decide_eq_true h⟩
  | _ => cases h
theorem nums_int : ∀ {xs : List V}, xs.all numV = true → xs = (xs.map intV).map V.int
  | [], _ => rfl
  | x :: r, h => by
    obtain ⟨h1, h2⟩ := Bool.and_eq_true_iff.mp (show (numV x && r.all numV) = true from h)
    rw [List.map_cons, List.map_cons, ← nums_int h2, ← (num_int h1).1]
def spRn (C NL NK : Addr) : Sp := fun vs H Q E => ∃ b g x h ls ns v lk, vs = [.ref x, v, lk] ∧ BoxAt H b g ∧ TrIn C H x h ls ns ∧ DrT h ls ns ∧ Thg b H v ∧ Thg b H lk ∧
  (hasM ls v = false → E (.ref NL) none H) ∧ (hasM ls v = true → lksV H (h + 1) lk = none → ∀ H', Same H H' → E (.ref NK) none H') ∧
  (hasM ls v = true → ∀ ks p, lksV H (h + 1) lk = some ks → ls[iV v]? = some (some p) → ∀ H' y, Same H H' → TrIn C H' y h (ls.set (iV v) (some (p.1, ks.getD 0 0))) (newN (iV v) ks h ns) → Q (.ref y) H')
section
variable {P : Program} {w : World} {K : PySem.W.Frag} {mg : Str → Option Value} {base : Heap} {C B NL NK : Addr}
abbrev nRn : List Str := ["tree", "leaf", "locks", "leaves", "nodes", "row", "node", "lock"]
theorem scRn : FnScope nRn ["tree", "leaf", "locks"] (defScope sRn) := ⟨rfl, rfl, rfl, by decide +kernel, rfl, by decide +kernel, by decide +kernel⟩
theorem ok_rn {f : Addr} {fd : FuncData} {k : Nat} (F : Fun K "renewed" "renewed" sRn f fd) (T : Tx mg) (hso : mg "sorted" = none) (c : TrC K C) (R : MkT P w K mg base (k + 5) C B) (N : NoC P w K mg base "NoLocks" NK) (cM : CalX P w K mg base (k + 4) "check_member" ["tree", "leaf"] (spCm C NL))
    (cU : Cal P w K mg base (k + 2) "is_number" ["thing"] spNumb) (cP : CalX P w K mg base (k + 4) "path" ["tree", "leaf"] (spWay C NL pathL)) : FnOk P w K mg base (CX P w) (k + 7) f fd ["tree", "leaf", "locks"] (spRn C NL NK) := by
  refine F.okX scRn (fun vs H Q E h => ?_) (fun cdv A outer s H vs Q E hr h => ?_)
  · obtain ⟨b, g, x, h, ls, ns, v, lk, rfl, _⟩ := h
    rfl
  · obtain ⟨b, g, x, h, ls, ns, v, lk, rfl, hB, hT, d, hv, hlk, qe, qk, q⟩ := h
    have tk := takes_of (X := cxOf (CX P w) P w K mg base nRn "renewed" (defScope sRn) f cdv A outer s H E) (E := E) rfl rfl rfl rfl
    refine ⟨_, (pss_cons (ps_expr (pe_cx cM hr (by omega) (by rfl) (passes_call tk (E := E) fun _ _ _ _ h => h) (pa_cons (pv 0) (pa_cons (pv 1) pa_nil)))) (pss_cons (ps_if (pt_or (pt_not (pt_val (pe_callB call_isTh (by rfl) T.isi (by decide +kernel) (pa_cons (pv 2) (pa_cons (pe_bltn (v := .ty "tuple") (u := .type "tuple") (by rfl) T.tuple_ (by decide +kernel) rfl) pa_nil))))) (pw_or (pt_cmpR op_ne (pe_callB call_len_seq (by rfl) T.len_ PySem.boot_len (pa_cons (pv 2) pa_nil)) (pe_op op_add (pe_fld (pv 0) rfl) pe_int) (nomark _)) (pw_or1 (pt_not (pt_val (pe_callB (cr_all rfl) (by rfl) T.all_ (by decide +kernel) (pa_cons (pe_lc (own := [("lock", 7)]) (g := gName 7) (te := tCall spNumb [] E0 (tCons (tVar 7) tNil)) rfl scRn.nd (pi_tup (pv 2)) (blkOk_by (N := nRn) (sc := defScope sRn) (by decide +kernel)) (fun _ _ _ _ _ => pg_name (i := 7) scRn.nd rfl (Or.inl rfl)) (fun _ _ _ _ _ => pts_nil) (fun _ _ _ _ _ => (pe_c cU hr (by omega) (by rfl) (pa_cons (pv 7) pa_nil)))) pa_nil))))))) (pss_one (ps_raise rfl tk (pmk_no N.i rfl (hr.mono (by omega)) (by rfl) N.g))) pss_nil) (pss_cons (ps_set (i := 3) scRn.nd rfl (Or.inl rfl) (pe_op op_catF (pe_op op_catF (pe_slice sl_tupA (pe_fld (pv 0) rfl) po_none (po_some (pv 1))) (pe_tupF (pa_cons (pe_tup (pa_cons (pe_ix ix_tup (pe_ix ix_tup (pe_fld (pv 0) rfl) (pv 1) (fun _ _ => rfl)) pe_int (fun _ _ => rfl)) (pa_cons (pe_ix ix_tup (pv 2) pe_int (fun _ _ => rfl)) pa_nil))) pa_nil))) (pe_slice sl_tupA (pe_fld (pv 0) rfl) (po_some (pe_op op_add (pv 1) pe_int)) po_none))) (pss_cons (ps_setLc (own := [("row", 5)]) (i := 4) (g := gName 5) (te := tVar 5) (tt := tTest (tOp rNe (tOp rShr (tVar 1) (tOp (rIxT K) (tOp (rIxT K) (tVar 5) (tC (.int 0))) (tC (.int 0)))) (tOp (rIxT K) (tOp (rIxT K) (tVar 5) (tC (.int 0))) (tC (.int 1))))) rfl scRn.nd rfl rfl (sw_true rfl rfl rfl (by decide +kernel)) (pi_tup (pe_fld (pv 0) rfl)) (blkOk_by (N := nRn) (sc := defScope sRn) (by decide +kernel)) (fun _ _ _ _ _ => pg_name (i := 5) scRn.nd rfl (Or.inl rfl)) (fun _ _ _ _ _ => (pts_one (pt_cmpR op_ne (pe_op op_shr (pv 1) (pe_ix ix_tup (pe_ix ix_tup (pv 5) pe_int (fun _ _ => rfl)) pe_int (fun _ _ => rfl))) (pe_ix ix_tup (pe_ix ix_tup (pv 5) pe_int (fun _ _ => rfl)) pe_int (fun _ _ => rfl)) (nomark _)))) (fun _ _ _ _ _ => (pv 5))) (pss_cons (ps_expr (pe_bm PySem.F.plainAttrs_list PySem.F.slot_list_extend PySem.F.type_list_extend mt_extend (pv 4) (pa_cons (pe_lc (own := [("node", 6)]) (g := gName 6) (te := tTup (tCons (tVar 6) (tCons (tOp (rIxT K) (tVar 2) (tOp (rIxT K) (tVar 6) (tC (.int 0)))) (tCons (tTup tNil) tNil)))) rfl scRn.nd (pi_tup (pe_cx cP hr (by omega) (by rfl) pass_no (pa_cons (pv 0) (pa_cons (pv 1) pa_nil)))) (blkOk_by (N := nRn) (sc := defScope sRn) (by decide +kernel)) (fun _ _ _ _ _ => pg_name (i := 6) scRn.nd rfl (Or.inl rfl)) (fun _ _ _ _ _ => pts_nil) (fun _ _ _ _ _ => (pe_tup (pa_cons (pv 6) (pa_cons (pe_ix ix_tup (pv 2) (pe_ix ix_tup (pv 6) pe_int (fun _ _ => rfl)) (fun _ _ => rfl)) (pa_cons (pe_tup pa_nil) pa_nil)))))) pa_nil))) (pss_one (ps_ret (pe_make R.M R.F (hr.mono (by omega)) (by rfl) R.g R.b .nil pass_no (pa_cons (pe_fld (pv 0) rfl) (pa_cons (pv 3) (pa_cons (pe_tupleOf (by rfl) T.tuple_ (pe_callB (cr_sortLD hr.units) (by rfl) hso (by decide +kernel) (pa_cons (pv 4) pa_nil))) pa_nil))))))))))), ?_⟩
    obtain ⟨dx, la, na, hx, ⟨lv, hla, hlp⟩, ⟨wv, hna, hnp⟩⟩ := id hT
    refine ⟨_, rfl, _, rfl, b, x, h, ls, ns, v, rfl, hT, d, hv, fun hb => ?_, qe⟩
    obtain ⟨j, p, rfl, ej, hj⟩ := hasM_at hb
    have q := q hb
    have qk := qk hb
    rw [ej] at q
    have h8 := d.h8
    have l256 := d.l256
    have hlv := Paired.len hlp
    have hlw := Paired.len hnp
    have hnl := d.nl
    have hjl : j < ls.length := (List.getElem?_eq_some_iff.mp hj).1
    obtain ⟨t, ht⟩ := hlk.th
    refine ⟨_, rfl, _, "tuple", t, rfl, ht, by decide, _, rfl, ?_⟩
    rcases tup_cases ht with ⟨ka, xs, rfl, hka, e, rfl⟩ | ⟨e1, e2⟩
    rotate_left
    · rw [e2]
      exact iteT ⟨fun _ h => h, qk (lks_no e1) _ (Same.refl _)⟩
    obtain ⟨hkl, hks⟩ := hlk.sub hka
    rw [lks_at e] at qk
    have q := fun ks p => q ks p
    rw [lks_at e] at q
    refine iteF ⟨_, rfl, ka, xs, rfl, .inr (.of hka), _, rfl, x, C, dx, _, _, rfl, hx, c.cls, c.na _ (by simp), rfl, _, _, rfl, rfl, rfl, _, rfl, ?_⟩
    have hd : decide (V.int (xs.length : Nat) = V.int (((h : Nat) : Int) + 1)) = decide (xs.length = h + 1) := by
      rw [dec_int, Bool.eq_iff_iff, beq_iff_eq, decide_eq_true_iff]
      omega
    rw [hd]
    by_cases hxl : xs.length = h + 1
    rotate_left
    · rw [decide_eq_false hxl]
      exact iteT ⟨fun _ h => h, qk (if_neg fun z => hxl z.1) _ (Same.refl _)⟩
    rw [decide_eq_true hxl]
    refine iteF ⟨_, rfl, ka, rfl, ⟨_, .of hka⟩, fun D nD => ?_⟩
    refine lcP walk_tup (fun i => V.bl (numV (xs.getD i .non))) (Nat.lt_of_le_of_lt hkl (by decide)) nD (fun _ sm => .of (sm _ _ hka)) ?_ ?_
    · rintro i y G3 G4 Q' hi sm ⟨rfl, hy⟩ hq
      have eg : xs.getD i .non = y := by rw [List.getD_eq_getElem?_getD, hy]; rfl
      rw [eg] at hq
      exact ⟨rfl, _, rfl, b, y, rfl, (hks y (List.mem_of_getElem? hy)).same sm, hq _ (Same.refl _)⟩
    intro G1 s1 hd1
    refine ⟨D, (List.range xs.length).map fun i => numV (xs.getD i .non), rfl, .inl (.inl (by rw [hd1, List.map_map]; rfl)), _, rfl, ?_⟩
    rw [range_all]
    cases hn : xs.all numV with
    | false => exact iteT ⟨fun _ h => s1.free h, qk (if_neg fun z => by rw [hn] at z; exact Bool.false_ne_true z.2) _ s1⟩
    | true =>
    have q9 := q (xs.map intV) p (if_pos ⟨hxl, hn⟩) hj
    clear q
    refine iteF ?_
    have hx1 := s1 _ _ hx
    have hla1 := hla.same s1
    have hka1 := s1 _ _ hka
    have tk1 : TK H G1 := .same s1
    have hlp1 := Paired.mapP hlp fun _ _ r => r.tk tk1
    obtain ⟨xv, hxv, hlf⟩ := Paired.at hlp1 hj
    obtain ⟨xa, rfl, hxa⟩ := hlf
    have ex := nums_int hn
    generalize hks' : xs.map intV = ks at *
    have hkl2 : ks.length = h + 1 := by rw [← hks', List.length_map]; exact hxl
    subst ex
    obtain ⟨k0, hk0⟩ : ∃ k0, ks[0]? = some k0 := ⟨ks[0], List.getElem?_eq_getElem (by omega)⟩
    have ek0 : ks.getD 0 0 = k0 := by rw [List.getD_eq_getElem?_getD, hk0]; rfl
    have hkg : ∀ k ∈ ks, 0 ≤ k ∧ k ≤ maxI := fun k hk => by
      have hm : V.int k ∈ ks.map V.int := List.mem_map_of_mem hk
      exact ⟨(num_int (List.all_eq_true.mp hn _ hm)).2, (hks _ hm).le⟩
    have hxg : ∀ G, Same G1 G → G x = some (.ins C dx [("height", .int (h : Nat)), ("leaves", .ref la), ("nodes", .ref na)]) := fun G s => s _ _ hx1
    dsimp only [tNext]
    refine seq_set (slices3 (la := la) (xs := lv) (n := j) (Rel := fun G v => LfAt G v (some (p.1, k0))) hla1 (by omega) (by omega) (fun G G' v s h => h.tk (.same s)) (fun G Q s q => ⟨_, rfl, x, C, dx, _, _, rfl, hxg G s, c.cls, c.na _ (by simp), rfl, q⟩) (fun G Q s q => ⟨_, rfl, q⟩)
      (fun G Q s q => ?_) (fun G2 l2 v s2 hl2 hv2 => ?_))
    · refine ⟨_, rfl, x, C, dx, _, _, rfl, hxg G s, c.cls, c.na _ (by simp), rfl, _, rfl, la, _, _, .ref xa, rfl, rfl, (hla1.same s).sq, atI_nat hxv, xa, _, _, .str p.1, rfl, rfl, .of (s _ _ hxa), atI_nat (j := 0) rfl, _, rfl, ka, _, _, .int k0, rfl, rfl, .of (s _ _ hka1), atI_nat (j := 0) (by rw [List.getElem?_map, hk0]; rfl), by show 2 ≤ sizeLine; decide, fun p1 np1 => ⟨by show 1 ≤ sizeLine; decide, fun p2 o2 ho2 np2 => ?_⟩⟩
      have u1 := same_upd (o := HO.tup [.str p.1, .int k0]) np1
      have u2 := same_upd (o := HO.frz o2 (.tup [V.ref p1])) np2
      exact q _ p2 _ (u1.trans u2) ⟨o2, ho2, upd_same⟩ ⟨p1, rfl, u2 _ _ upd_same⟩
    have s12 := s1.trans s2
    have hna2 := s12 _ _ hna
    have hx2 := s12 _ _ hx
    have hka2 := s12 _ _ hka
    have tk2 : TK H G2 := .same s12
    have hnp2 := Paired.mapP hnp fun _ _ r => r.tk tk2
    have hL2 : LvsAt G2 l2 (ls.set j (some (p.1, k0))) := ⟨_, hl2, paired_set (Paired.mapP hlp fun _ _ r => r.tk tk2) hv2⟩
    refine ⟨_, rfl, x, C, dx, _, _, rfl, hx2, c.cls, c.na _ (by simp), rfl, na, rfl, ⟨_, .of hna2⟩, fun D nD => ?_⟩
    refine lc_it (walk_tup (xs := wv)) (fun i G => Same G2 G ∧ ∃ us, G D = some (.lst us) ∧ us.length ≤ i ∧ Paired (NdAt G) us ((ns.take i).filter (offN j))) ⟨same_upd nD, [], upd_same, Nat.le_refl _, .nil⟩ (fun i G _ hG => .of (hG.1 _ _ hna2)) ?_ ?_
    · rintro i y G G' hi ⟨sm, us, hD, hul, hup⟩ ⟨rfl, hy⟩
      obtain ⟨m, hm, hnd⟩ := Paired.at' hnp2 hy
      obtain ⟨a, nda, ca, rfl, h1, h2, h3⟩ := id hnd
      refine ⟨rfl, _, rfl, _, rfl, a, _, _, .ref nda, rfl, rfl, .of (sm _ _ h1), atI_nat (j := 0) rfl, nda, _, _, .int (m.1.1 : Nat), rfl, rfl, .of (sm _ _ h2), atI_nat (j := 0) rfl, _, _, rfl, rfl, by omega, _, rfl, a, _, _, .ref nda, rfl, rfl, .of (sm _ _ h1), atI_nat (j := 0) rfl, nda, _, _, .int (m.1.2 : Nat), rfl, rfl, .of (sm _ _ h2), atI_nat (j := 1) rfl, rfl, _, rfl, ?_⟩
      rw [off_test, take_snoc hm, List.filter_append]
      have hw : us.length < sizeLine := Nat.lt_of_le_of_lt (show us.length ≤ 1152 by omega) (by decide)
      cases ho : offN j m with
      | false =>
        refine iteF ⟨sm, us, hD, by omega, ?_⟩
        rw [List.filter_cons_of_neg (by rw [ho]; exact Bool.false_ne_true), List.filter_nil, List.append_nil]
        exact hup
      | true =>
        have tk3 : TK G' (upd G' D (.lst (us ++ [.ref a]))) := .upd hD (fun _ e => by cases e)
        refine iteT ⟨_, rfl, us, hD, hw, same_put sm nD, us ++ [.ref a], upd_same, by rw [List.length_append, List.length_singleton]; omega, ?_⟩
        rw [List.filter_cons_of_pos ho, List.filter_nil]
        exact Paired.snoc (Paired.mapP hup fun _ _ r => r.tk tk3) ((hnd.tk (.same sm)).tk tk3)
    rintro G ⟨sm, us, hD, hul, hup⟩
    rw [hlw, List.take_length] at hup
    have hus : us.length ≤ 1152 := by omega
    have hBG := (hB.same s12).same sm
    have hTG := (hT.same s12).same sm
    have tvG : Thg b G (.int (j : Nat)) := (hv.same s12).same sm
    have below : belowV (ls.length : Int) (.int (j : Nat)) = true := by
      show decide (0 ≤ ((j : Nat) : Int) ∧ ((j : Nat) : Int) < (ls.length : Int)) = true
      exact decide_eq_true (by omega)
    refine ⟨_, rfl, .inl ⟨rfl, _, SqL.of hD⟩, ?_⟩
    refine ⟨_, rfl, _, rfl, b, x, h, ls, ns, .int (j : Nat), rfl, hTG, d, tvG, fun _ G3 pt s3 hpt => ?_, fun e => by rw [below] at e; cases e⟩
    obtain ⟨pv', hpv, hpp⟩ := hpt
    have hpl : pv'.length = h := by rw [Paired.len hpp]; unfold pathL; rw [List.length_map, List.length_range]
    refine ⟨pt, rfl, ⟨_, .of hpv⟩, fun D2 nD2 => ?_⟩
    refine lc_it (walk_tup (xs := pv')) (tt := tYes) (fun i G4 => Same G3 G4 ∧ ∃ us2, G4 D2 = some (.lst us2) ∧ us2.length ≤ i ∧ Paired (NdAt G4) us2 ((upN j ks h).take i)) ⟨same_upd nD2, [], upd_same, Nat.le_refl _, .nil⟩ (fun i G4 _ hG => .of (hG.1 _ _ hpv)) ?_ ?_
    · rintro i y G4 G4' hi ⟨sm4, us2, hD2, hul2, hup2⟩ ⟨rfl, hy⟩
      obtain ⟨pq, hpq, a, rfl, hpa⟩ := Paired.at' hpp hy
      have hih : i < h := by omega
      have epq : pq = (i + 1, j / 2 ^ (i + 1)) := by
        have e2 : (pathL h j)[i]? = some pq := hpq
        unfold pathL at e2
        rw [List.getElem?_map, List.getElem?_range hih] at e2
        exact (Option.some.inj e2).symm
      have hun : (upN j ks h)[i]? = some ((i + 1, j / 2 ^ (i + 1)), ks.getD (i + 1) 0, []) := by
        unfold upN
        rw [List.getElem?_map, List.getElem?_range hih]
        rfl
      subst epq
      have hki : (ks.map V.int)[i + 1]? = some (.int (ks.getD (i + 1) 0)) := by
        rw [List.getElem?_map, List.getD_eq_getElem?_getD, List.getElem?_eq_getElem (by omega)]
        rfl
      have hpa4 := sm4 _ _ hpa
      refine ⟨rfl, _, rfl, _, rfl, _, rfl, a, _, _, .int ((i + 1 : Nat) : Int), rfl, rfl, .of hpa4, atI_nat (j := 0) rfl, ka, _, _, .int (ks.getD (i + 1) 0), rfl, rfl, .of (sm4 _ _ (s3 _ _ (sm _ _ hka2))), atI_nat hki, Nat.zero_le _, fun e0 ne0 => ⟨by show 3 ≤ sizeLine; decide, fun p3 np3 => ?_⟩⟩
      have u1 := same_upd (o := HO.tup []) ne0
      have u2 := same_upd (o := HO.tup [.ref a, .int (ks.getD (i + 1) 0), .ref e0]) np3
      have hD3 := u2 _ _ (u1 _ _ hD2)
      have hnew : NdAt (upd (upd G4' e0 (.tup [])) p3 (.tup [.ref a, .int (ks.getD (i + 1) 0), .ref e0])) (.ref p3) ((i + 1, j / 2 ^ (i + 1)), ks.getD (i + 1) 0, []) := ⟨p3, a, e0, rfl, upd_same, u2 _ _ (u1 _ _ hpa4), u2 _ _ upd_same⟩
      have tk4 := (TK.same u1).trans (TK.same u2)
      generalize upd (upd G4' e0 (.tup [])) p3 (.tup [.ref a, .int (ks.getD (i + 1) 0), .ref e0]) = G5 at *
      have tk5 : TK G5 (upd G5 D2 (.lst (us2 ++ [.ref p3]))) := .upd hD3 (fun _ e => by cases e)
      refine ⟨us2, hD3, Nat.lt_of_le_of_lt (show us2.length ≤ 8 by omega) (by decide), same_put ((sm4.trans u1).trans u2) nD2, us2 ++ [.ref p3], upd_same, by rw [List.length_append, List.length_singleton]; omega, ?_⟩
      rw [take_snoc hun]
      exact Paired.snoc (Paired.mapP hup2 fun _ _ r => (r.tk tk4).tk tk5) (hnew.tk tk5)
    rintro G4 ⟨sm4, us2, hD2, hul2, hup2⟩
    rw [hpl, List.take_of_length_le (by unfold upN; rw [List.length_map, List.length_range]; exact Nat.le_refl _)] at hup2
    have hD4 := sm4 _ _ (s3 _ _ hD)
    have tk6 : TK G4 (upd G4 D (.lst (us ++ us2))) := .upd hD4 (fun _ e => by cases e)
    have hall : Paired (NdAt (upd G4 D (.lst (us ++ us2)))) (us ++ us2) (ns.filter (offN j) ++ upN j ks h) := paired_app (Paired.mapP hup fun _ _ r => ((r.tk (.same s3)).tk (.same sm4)).tk tk6) (Paired.mapP hup2 fun _ _ r => r.tk tk6)
    refine ⟨D, D2, us, us2, rfl, rfl, hD4, hD2, Nat.le_trans (show us.length + us2.length ≤ 1160 by omega) (by decide), ?_⟩
    have sD : Same G2 (upd G4 D (.lst (us ++ us2))) := same_put ((sm.trans s3).trans sm4) nD
    have hD5 : (upd G4 D (.lst (us ++ us2))) D = some (.lst (us ++ us2)) := upd_same
    generalize upd G4 D (.lst (us ++ us2)) = G5 at *
    refine ⟨_, rfl, x, C, dx, _, _, rfl, sD _ _ hx2, c.cls, c.na _ (by simp), rfl, _, rfl, _, rfl, ?_⟩
    refine ⟨Nd, D, us ++ us2, ns.filter (offN j) ++ upN j ks h, dNd, NdAt G5, rfl, SqL.of hD5, hall, ⟨fun _ _ r => dpNd r, .of alike_nd, .tuples fun n => ⟨_, _, rfl⟩, fun n _ => Nat.le_trans (dep_nd n) (by decide), fun ys sp hys nsp => ?_⟩⟩
    have u7 := same_upd (o := HO.lst ys) nsp
    refine .inl ⟨sp, ys, rfl, .of upd_same, fun tn ntn => ?_⟩
    have u8 := same_upd (o := HO.tup ys) ntn
    have s8 := sD.trans (u7.trans u8)
    exact mk_core (b := b) ((hB.same s12).same s8).nt (hL2.tk (.same s8)) ⟨ys, upd_same, Paired.mapP hys fun _ _ r => (r.tk (.same u7)).tk (.same u8)⟩ (new_ok (ks := ks) d hj (hkg k0 (List.mem_of_getElem? hk0)).1 (hkg k0 (List.mem_of_getElem? hk0)).2 hkg) fun H' y s9 hy => q9 H' y (s12.trans (s8.trans s9)) (by rw [ek0]; exact hy)
end
end L2.My
end
section
set_option Elab.async false
set_option linter.all false
set_option maxRecDepth 100000
set_option maxHeartbeats 4000000
/-! with_member. -/
namespace L2.My
open PySem PySem.Spec PyProof.Rows PySem.W
abbrev sWi : Stmt := top 28
def spWi (C NM NK ND TF : Addr) : Sp := fun vs H Q E => ∃ b g x h ls ns nm lk, vs = [.ref x, nm, lk] ∧ BoxAt H b g ∧ TrIn C H x h ls ns ∧ DrT h ls ns ∧ Thg b H nm ∧ Thg b H lk ∧
  (wordV nm = false → ∀ H', Same H H' → E (.ref NM) none H') ∧ (wordV nm = true → numV lk = false → ∀ H', Same H H' → E (.ref NK) none H') ∧
  ∀ z i, nm = .str z → lk = .int i → wordB z = true → 0 ≤ i →
    (z ∈ wds ls → ∀ H', Same H H' → E (.ref ND) none H') ∧
    (z ∉ wds ls → h = 8 ∧ none ∉ ls → ∀ H', Same H H' → E (.ref TF) none H') ∧
    (z ∉ wds ls → ¬ (h = 8 ∧ none ∉ ls) → ∀ H' y t, Same H H' → TrIn C H' y (grown h ls).1 ((grown h ls).2.set (blankAt (grown h ls).2) (some (z, i))) (ns.map (addN (blankAt (grown h ls).2))) → H' t = some (.tup [.ref y, .int (blankAt (grown h ls).2 : Nat)]) → Q (.ref t) H')
theorem rep_non {K : PySem.W.Frag} {H : Hp} {p : Addr} {n : Nat} {Q : VK} (hp : H p = some (.tup [.non])) (h1 : 1 ≤ n) (h2 : n ≤ 256) (q : ∀ c G, Same H G → G c = some (.tup (List.replicate n .non)) → Q (.ref c) G) : rRep1 K (.ref p) (.int (n : Nat)) H Q := by
  by_cases e : n = 1
  · subst e
    exact .inl ⟨p, _, rfl, rfl, .of hp, q p H (Same.refl _) hp⟩
  · refine .inr ⟨p, (n : Nat), [.non], rfl, rfl, .of hp, by simp, by omega, by omega, by show 1 ≤ 1000; decide, fun c nc => q c _ (same_upd nc) ?_⟩
    rw [upd_same]
    congr 2
    rw [Int.toNat_natCast]
    clear hp h1 h2 q e nc
    induction n with
    | zero => rfl
    | succ n ih => rw [List.replicate_succ, List.flatten_cons, ih, List.replicate_succ]; rfl
theorem any_none : ∀ ls : List Lf, ((ls.map dLf).any fun z => PyData.eqv z .none) = decide (none ∈ ls)
  | [] => rfl
  | none :: r => by
    rw [List.map_cons, List.any_cons]
    show (PyData.eqv .none .none || _) = _
    rw [show PyData.eqv .none .none = true by simp [PyData.eqv], Bool.true_or, decide_eq_true List.mem_cons_self]
  | some p :: r => by
    rw [List.map_cons, List.any_cons, any_none r]
    show (PyData.eqv (.tuple [.str p.1, .int p.2]) .none || _) = _
    rw [show PyData.eqv (.tuple [.str p.1, .int p.2]) .none = false by simp [PyData.eqv], Bool.false_or]
    exact decide_eq_decide.mpr (by simp)
theorem paired_repl {H : Hp} : ∀ n, Paired (LfAt H) (List.replicate n .non) (List.replicate n none)
  | 0 => .nil
  | n + 1 => .cons rfl (paired_repl n)
theorem sort_nat (l : List Nat) : l.mergeSort (dataLe false fun (b : Nat) => PyData.int (b : Nat)) = srtN l := by
  have e : (dataLe false fun (b : Nat) => PyData.int (b : Nat)) = leN := by
    rw [dataLe_int]
    funext a b
    exact decide_eq_decide.mpr (by omega)
  rw [e]
  rfl
theorem nN_pair (l : List Nat) : Paired (fun (v : V) (b : Nat) => v = .int (b : Nat)) (nN l) l := by
  induction l with
  | nil => exact .nil
  | cons x r ih => exact .cons rfl ih
theorem pair_nN {ys : List V} {l : List Nat} (h : Paired (fun (v : V) (b : Nat) => v = .int (b : Nat)) ys l) : ys = nN l := by
  induction h with
  | nil => rfl
  | cons e _ ih => rw [e, ih]; rfl
/-- what is told of sorted numbers -/
theorem sort_nats {K : PySem.W.Frag} {H : Hp} {l : List Nat} {Q : VK} (q : ∀ p, H p = none → Q (.ref p) (upd H p (.lst (nN (srtN l))))) : SortD K H l (fun (b : Nat) => PyData.int (b : Nat)) (fun (v : V) (b : Nat) => v = .int (b : Nat)) Q :=
  ⟨fun x b e => by rw [e]; exact .int _, .of fun _ _ => rfl, .others fun b => ⟨(by intro e; cases e), (by intro _ e; cases e)⟩, fun b _ => by simp [PyData.depth], fun ys p hy np => by
    rw [sort_nat] at hy
    rw [pair_nN hy]
    exact q p np⟩
section
variable {P : Program} {w : World} {K : PySem.W.Frag} {mg : Str → Option Value} {base : Heap} {C B NM NK ND TF : Addr}
abbrev nWi : List Str := ["tree", "name", "lock", "height", "leaves", "leaf", "nodes", "node", "held", "aside", "above", "member"]
theorem scWi : FnScope nWi ["tree", "name", "lock"] (defScope sWi) := ⟨rfl, rfl, rfl, by decide +kernel, rfl, by decide +kernel, by decide +kernel⟩
theorem ok_wi {f : Addr} {fd : FuncData} {k : Nat} (F : Fun K "with_member" "with_member" sWi f fd) (T : Tx mg) (hso : mg "sorted" = none) (c : TrC K C) (R : MkT P w K mg base (k + 5) C B) (N1 : NoC P w K mg base "NoName" NM) (N2 : NoC P w K mg base "NoLock" NK) (N3 : NoC P w K mg base "Named" ND) (N4 : NoC P w K mg base "TreeFull" TF)
    (cW : Cal P w K mg base (k + 2) "is_word" ["thing"] spWord) (cU : Cal P w K mg base (k + 2) "is_number" ["thing"] spNumb) : FnOk P w K mg base (CX P w) (k + 7) f fd ["tree", "name", "lock"] (spWi C NM NK ND TF) := by
  refine F.okX scWi (fun vs H Q E h => ?_) (fun cdv A outer s H vs Q E hr h => ?_)
  · obtain ⟨b, g, x, h, ls, ns, nm, lk, rfl, _⟩ := h
    rfl
  · obtain ⟨b, g, x, h, ls, ns, nm, lk, rfl, hB, hT, d, hnm, hlk, q1, q2, q3⟩ := h
    have tk := takes_of (X := cxOf (CX P w) P w K mg base nWi "with_member" (defScope sWi) f cdv A outer s H E) (E := E) rfl rfl rfl rfl
    obtain ⟨th, h1⟩ := T.mh
    refine ⟨_, (pss_cons (ps_if (pt_not (pt_val (pe_c cW hr (by omega) (by rfl) (pa_cons (pv 1) pa_nil)))) (pss_one (ps_raise rfl tk (pmk_no N1.i rfl (hr.mono (by omega)) (by rfl) N1.g))) pss_nil) (pss_cons (ps_if (pt_not (pt_val (pe_c cU hr (by omega) (by rfl) (pa_cons (pv 2) pa_nil)))) (pss_one (ps_raise rfl tk (pmk_no N2.i rfl (hr.mono (by omega)) (by rfl) N2.g))) pss_nil) (pss_cons (ps_if (pt_cmpR (op_inD (u65 hr)) (pv 1) (pe_lc (own := [("member", 11)]) (g := gName 11) (te := tOp (rIxT K) (tVar 11) (tC (.int 0))) (tt := tTest (tOp rNotN (tVar 11) (tC .non))) rfl scWi.nd (pi_tup (pe_fld (pv 0) rfl)) (blkOk_by (N := nWi) (sc := defScope sWi) (by decide +kernel)) (fun _ _ _ _ _ => pg_name (i := 11) scWi.nd rfl (Or.inl rfl)) (fun _ _ _ _ _ => (pts_one (pt_cmpR op_notN (pv 11) pe_non (nomark _)))) (fun _ _ _ _ _ => (pe_ix ix_tup (pv 11) pe_int (fun _ _ => rfl)))) rfl) (pss_one (ps_raise rfl tk (pmk_no N3.i rfl (hr.mono (by omega)) (by rfl) N3.g))) pss_nil) (pss_cons (ps_par (i := 3) (j := 4) rfl scWi.nd rfl rfl (by decide) rfl rfl (pa_cons (pe_fld (pv 0) rfl) (pa_cons (pe_fld (pv 0) rfl) pa_nil)) rfl) (pss_cons (ps_if (pt_cmpR (op_notInTD (u65 hr)) pe_non (pv 4) rfl) (pss_cons (ps_if (pt_cmpR op_eq (pv 3) (pe_glob (v := .int 8) (by rfl) h1 ⟨_, rfl⟩) (nomark _)) (pss_one (ps_raise rfl tk (pmk_no N4.i rfl (hr.mono (by omega)) (by rfl) N4.g))) pss_nil) (pss_one (ps_par (i := 3) (j := 4) rfl scWi.nd rfl rfl (by decide) rfl rfl (pa_cons (pe_op op_add (pv 3) pe_int) (pa_cons (pe_op op_catF (pv 4) (pe_op op_rep1 (pe_tup (pa_cons pe_non pa_nil)) (pe_callB call_len_seq (by rfl) T.len_ PySem.boot_len (pa_cons (pv 4) pa_nil)))) pa_nil)) rfl))) pss_nil) (pss_cons (ps_set (i := 5) scWi.nd rfl (Or.inl rfl) (pe_bmF PySem.F.plainAttrs_tuple PySem.F.slot_tuple_index PySem.F.type_tuple_index (mt_tindexD (u65 hr)) (pv 4) (pa_cons pe_non pa_nil))) (pss_cons (ps_set (i := 4) scWi.nd rfl (Or.inl rfl) (pe_op op_catF (pe_op op_catF (pe_slice sl_tupA (pv 4) po_none (po_some (pv 5))) (pe_tupF (pa_cons (pe_tup (pa_cons (pv 1) (pa_cons (pv 2) pa_nil))) pa_nil))) (pe_slice sl_tupA (pv 4) (po_some (pe_op op_add (pv 5) pe_int)) po_none))) (pss_cons (ps_set (i := 6) scWi.nd rfl (Or.inl rfl) (pe_lst pa_nil)) (pss_cons (ps_for (passes_of rfl) rfl (pi_tup (pe_fld (pv 0) rfl)) (pg_tup rfl (pgs_cons (pg_name (i := 7) scWi.nd rfl (Or.inl rfl)) (pgs_cons (pg_name (i := 8) scWi.nd rfl (Or.inl rfl)) (pgs_cons (pg_name (i := 9) scWi.nd rfl (Or.inl rfl)) pgs_nil)))) (pss_cons (ps_set (i := 10) scWi.nd rfl (Or.inl rfl) (pe_cmpR op_eq (pe_op op_shr (pv 5) (pe_ix ix_tup (pv 7) pe_int (fun _ _ => rfl))) (pe_ix ix_tup (pv 7) pe_int (fun _ _ => rfl)) (nomark _))) (pss_one (ps_expr (pe_bm PySem.F.plainAttrs_list PySem.F.slot_list_append PySem.F.type_list_append mt_append (pv 6) (pa_cons (pe_tup (pa_cons (pv 7) (pa_cons (pv 8) (pa_cons (pe_ifExp (pt_val (pv 10)) (pe_tupleOf (by rfl) T.tuple_ (pe_callB (cr_sortTD hr.units) (by rfl) hso (by decide +kernel) (pa_cons (pe_op op_catA (pv 9) (pe_tup (pa_cons (pv 5) pa_nil))) pa_nil))) (pv 9)) pa_nil)))) pa_nil)))))) (pss_one (ps_ret (pe_tup (pa_cons (pe_make R.M R.F (hr.mono (by omega)) (by rfl) R.g R.b .nil pass_no (pa_cons (pv 3) (pa_cons (pv 4) (pa_cons (pe_tupleOf (by rfl) T.tuple_ (pv 6)) pa_nil)))) (pa_cons (pv 5) pa_nil)))))))))))))), ?_⟩
    obtain ⟨dx, la, na, hx, ⟨lv, hla, hlp⟩, ⟨wv, hna, hnp⟩⟩ := id hT
    have h8 := d.h8
    have l256 := d.l256
    have hll := d.ll
    have hlv := Paired.len hlp
    have hlw := Paired.len hnp
    have hnl := d.nl
    refine ⟨_, rfl, b, nm, rfl, hnm, fun H1 s1 => ⟨_, rfl, ?_⟩⟩
    cases hw : wordV nm with
    | false => exact iteT ⟨fun _ h => s1.free h, q1 hw _ s1⟩
    | true =>
    refine iteF ⟨_, rfl, b, lk, rfl, hlk.same s1, _, rfl, ?_⟩
    cases hn : numV lk with
    | false => exact iteT ⟨fun _ h => s1.free h, q2 hw hn _ s1⟩
    | true =>
    obtain ⟨z, rfl, hz⟩ : ∃ z, nm = .str z ∧ wordB z = true := by
      cases nm with
      | str z => exact ⟨z, rfl, hw⟩
      | _ => cases hw
    obtain ⟨e1, hi0⟩ := num_int hn
    generalize intV lk = i at *
    subst e1
    have hi1 := hlk.le
    obtain ⟨q3, q4, q5⟩ := q3 z i rfl rfl hz hi0
    refine iteF ?_
    have hx1 := s1 _ _ hx
    have hla1 := hla.same s1
    have tk1 : TK H H1 := .same s1
    have hlp1 := Paired.mapP hlp fun _ _ r => r.tk tk1
    refine ⟨_, rfl, _, rfl, x, C, dx, _, _, rfl, hx1, c.cls, c.na _ (by simp), rfl, la, rfl, ⟨_, hla1.sq⟩, fun D nD => ?_⟩
    refine lc_it (walk_tup (xs := lv)) (fun i G => Same H1 G ∧ G D = some (.lst ((wds (ls.take i)).map V.str))) ⟨same_upd nD, upd_same⟩ (fun i G _ hG => (hla1.same hG.1).sq) ?_ ?_
    · rintro i y G G' hi ⟨sm, hD⟩ ⟨rfl, hy⟩
      obtain ⟨l, hl, hlf⟩ := Paired.at' hlp1 hy
      refine ⟨rfl, _, rfl, rfl, _, rfl, ?_⟩
      rw [nonN, lf_non hlf, take_snoc hl]
      cases l with
      | none => exact iteF ⟨sm, by rw [wds_none]; exact hD⟩
      | some p =>
        obtain ⟨xa, rfl, hxa⟩ := hlf
        refine iteT ⟨_, rfl, xa, _, _, .str p.1, rfl, rfl, .of (sm _ _ hxa), atI_nat (j := 0) rfl, _, hD, ?_, same_put sm nD, ?_⟩
        · rw [List.length_map]
          have : (wds (ls.take i)).length ≤ i := by
            unfold wds
            rw [List.length_map]
            exact Nat.le_trans (List.length_filterMap_le _ _) (by rw [List.length_take]; omega)
          exact Nat.lt_of_le_of_lt (show _ ≤ 256 by omega) (by decide)
        · rw [upd_same, wds_some, List.map_append]
          rfl
    rintro G2 ⟨s2, hD⟩
    rw [hlv, List.take_length] at hD
    have s12 := s1.trans s2
    refine rIn_strs hD hz (wds_word d.gl) ⟨_, rfl, ?_⟩
    by_cases hm : z ∈ wds ls
    · rw [decide_eq_true hm]
      exact iteT ⟨fun _ h => s12.free h, q3 hm _ s12⟩
    rw [decide_eq_false hm]
    have q4 := q4 hm
    have q5 := q5 hm
    refine iteF ?_
    have hx2 := s12 _ _ hx
    have hla2 := hla.same s12
    have tk2 : TK H G2 := .same s12
    have hlp2 := Paired.mapP hlp fun _ _ r => r.tk tk2
    dsimp only [tNext]
    refine ⟨_, rfl, x, C, dx, _, _, rfl, hx2, c.cls, c.na _ (by simp), rfl, _, rfl, x, C, dx, _, _, rfl, hx2, c.cls, c.na _ (by simp), rfl, _, _, rfl, ?_⟩
    dsimp only
    refine seq_use (t := tIfS _ _ _) (fun σ G => ∃ la2, σ = [some (.ref x), some (.str z), some (.int i), some (.int ((grown h ls).1 : Nat)), some (.ref la2), none, none, none, none, none, none, none] ∧ Same G2 G ∧ LvsAt G la2 (grown h ls).2 ∧ ¬ (h = 8 ∧ none ∉ ls)) ?_ (fun hrest => ?_)
    · rintro σ G3 ⟨la2, rfl, s3, ⟨lv2, hl2, hp2⟩, hf⟩
      have d2 := grown_ok d hf
      have hmem := grown_mem h (ls := ls) (by rw [hll]; exact Nat.one_le_two_pow)
      have hbl := blank_at hmem
      have q5 := q5 hf
      generalize hj : blankAt (grown h ls).2 = j at *
      have hlo : ∀ m, m < j → ∃ p, (grown h ls).2[m]? = some (some p) := fun m hm => blank_lo (by rw [hj]; exact hm)
      have d3 := added_ok d2 hbl hz hi0 hi1 (by rw [grown_wds]; exact hm)
      generalize (grown h ls).1 = h2 at *
      generalize (grown h ls).2 = ls2 at *
      have s13 := s12.trans s3
      have l2256 := d2.l256
      have hlv2 := Paired.len hp2
      have hjl : j < ls2.length := (List.getElem?_eq_some_iff.mp hbl).1
      refine ⟨_, rfl, ⟨la2, lv2, rfl, hl2⟩, la2, .non, .none, ls2.map dLf, j, .none, rfl, rfl, dpLvs ⟨lv2, hl2, hp2⟩, .non, shaped_of (nice_lvs d2.gl) (Nat.le_trans (dep_lvs ls2) (by decide)), shaped_of .non (by decide), by rw [List.getElem?_map, hbl]; rfl, by simp [PyData.eqv], fun m z' hm hz' => ?_, ?_⟩
      · obtain ⟨p, hp⟩ := hlo m hm
        rw [List.getElem?_map, hp] at hz'
        rw [← Option.some.inj hz']
        show PyData.eqv (.tuple [.str p.1, .int p.2]) .none = false
        simp [PyData.eqv]
      dsimp only [gName]
      refine seq_set (slices3 (la := la2) (xs := lv2) (n := j) (Rel := fun G v => LfAt G v (some (z, i))) hl2 (by omega) (by omega) (fun G G' v s h => h.tk (.same s)) (fun G Q s q => ⟨_, rfl, q⟩) (fun G Q s q => ⟨_, rfl, q⟩)
        (fun G Q s q => ?_) (fun G4 l4 v s4 hl4 hv4 => ?_))
      · refine ⟨_, rfl, _, rfl, by show 2 ≤ sizeLine; decide, fun p1 np1 => ⟨by show 1 ≤ sizeLine; decide, fun p2 o2 ho2 np2 => ?_⟩⟩
        have u1 := same_upd (o := HO.tup [.str z, .int i]) np1
        have u2 := same_upd (o := HO.frz o2 (.tup [V.ref p1])) np2
        exact q _ p2 _ (u1.trans u2) ⟨o2, ho2, upd_same⟩ ⟨p1, rfl, u2 _ _ upd_same⟩
      have s14 := s13.trans s4
      have tk4 : TK H G4 := .same s14
      have hL4 : LvsAt G4 l4 (ls2.set j (some (z, i))) := ⟨_, hl4, paired_set (Paired.mapP hp2 fun _ _ r => r.tk (.same s4)) hv4⟩
      refine ⟨Nat.zero_le _, fun N nwN => ?_⟩
      have u5 := same_upd (o := HO.lst []) nwN
      have hN5 : (upd G4 N (.lst [])) N = some (.lst []) := upd_same
      have sF := s14.trans u5
      have nNH := s14.free nwN
      generalize upd G4 N (.lst []) = G5 at *
      have hx5 := sF _ _ hx
      have hna5 := sF _ _ hna
      have hnp5 := Paired.mapP hnp fun _ _ r => r.tk (.same sF)
      dsimp only [gName]
      refine ⟨_, rfl, x, C, dx, _, _, rfl, hx5, c.cls, c.na _ (by simp), rfl, na, rfl, ⟨_, .of hna5⟩, ?_⟩
      refine for_it (walk_tup (xs := wv)) (fun q σ G => ∃ (y7 y8 y9 y10 : Option V), σ = [some (.ref x), some (.str z), some (.int i), some (.int (h2 : Nat)), some (.ref l4), some (.int (j : Nat)), some (.ref N), y7, y8, y9, y10, none] ∧ Same H G ∧ LvsAt G l4 (ls2.set j (some (z, i))) ∧ ∃ us, G N = some (.lst us) ∧ us.length = q ∧ Paired (NdAt G) us ((ns.take q).map (addN j))) ⟨_, _, _, _, rfl, sF, hL4.tk (.same u5), [], hN5, rfl, .nil⟩ (fun q σ G _ hG => by obtain ⟨_, _, _, _, _, sG, _⟩ := hG; exact .of (sG _ _ hna)) ?_ ?_
      · rintro q y σ G G' hi ⟨y7, y8, y9, y10, rfl, sG, hLG, us, hN, hul, hup⟩ ⟨rfl, hy⟩
        obtain ⟨m, hm, hnd⟩ := Paired.at' hnp5 hy
        have hm5 : NdAt G' y m := by
          obtain ⟨m', hm', hnd'⟩ := Paired.at' hnp hy
          have e : m' = m := by rw [hm] at hm'; exact (Option.some.inj hm').symm
          rw [← e]
          exact hnd'.tk (.same sG)
        obtain ⟨a, nda, ca, rfl, g1, g2, g3⟩ := hm5
        have hme : (ns.take (q + 1)).map (addN j) = (ns.take q).map (addN j) ++ [addN j m] := by rw [take_snoc hm, List.map_append]; rfl
        have hq : q < 1152 := by omega
        refine ⟨a, _, rfl, .of g1, rfl, _, _, rfl, _, _, rfl, _, _, rfl, rfl, ?_⟩
        refine ⟨_, rfl, _, rfl, nda, _, _, .int (m.1.1 : Nat), rfl, rfl, .of g2, atI_nat (j := 0) rfl, _, _, rfl, rfl, by omega, _, rfl, nda, _, _, .int (m.1.2 : Nat), rfl, rfl, .of g2, atI_nat (j := 1) rfl, rfl, ?_⟩
        have et : decide (V.int (((j : Nat) : Int) / 2 ^ ((m.1.1 : Nat) : Int).toNat) = V.int (m.1.2 : Nat)) = !offN j m := by rw [← off_test, Bool.not_not]
        rw [et]
        dsimp only [gName]
        refine ⟨_, rfl, .inl ⟨rfl, _, SqL.of hN⟩, _, rfl, _, rfl, _, rfl, _, rfl, ?_⟩
        have fin : ∀ (G2 : Hp) (ca2 : Addr), Same G' G2 → G2 ca2 = some (.tup (nN (addN j m).2.2)) → ∀ p, G2 p = none → ∃ l xs y, V.ref N = .ref l ∧ [V.ref p] = [y] ∧ (upd G2 p (.tup [.ref nda, .int m.2.1, .ref ca2])) l = some (.lst xs) ∧ xs.length < sizeLine ∧ Same H (upd (upd G2 p (.tup [.ref nda, .int m.2.1, .ref ca2])) l (.lst (xs ++ [y]))) ∧ LvsAt (upd (upd G2 p (.tup [.ref nda, .int m.2.1, .ref ca2])) l (.lst (xs ++ [y]))) l4 (ls2.set j (some (z, i))) ∧
            ∃ us, (upd (upd G2 p (.tup [.ref nda, .int m.2.1, .ref ca2])) l (.lst (xs ++ [y]))) N = some (.lst us) ∧ us.length = q + 1 ∧ Paired (NdAt (upd (upd G2 p (.tup [.ref nda, .int m.2.1, .ref ca2])) l (.lst (xs ++ [y])))) us ((ns.take (q + 1)).map (addN j)) := by
          intro G2 ca2 s2 hc2 p np
          have u := same_upd (o := HO.tup [.ref nda, .int m.2.1, .ref ca2]) np
          have hNu := u _ _ (s2 _ _ hN)
          have hp1 : (upd G2 p (.tup [.ref nda, .int m.2.1, .ref ca2])) p = some (.tup [.ref nda, .int m.2.1, .ref ca2]) := upd_same
          have hnew : NdAt (upd G2 p (.tup [.ref nda, .int m.2.1, .ref ca2])) (.ref p) (addN j m) := by
            have ek := addN_key j m
            have el : (addN j m).2.1 = m.2.1 := by unfold addN; split <;> rfl
            exact ⟨p, nda, ca2, rfl, by rw [el]; exact hp1, by rw [ek]; exact u _ _ (s2 _ _ g2), u _ _ hc2⟩
          have s2u := s2.trans u
          generalize upd G2 p (.tup [.ref nda, .int m.2.1, .ref ca2]) = G3 at *
          have tk3 : TK G3 (upd G3 N (.lst (us ++ [.ref p]))) := .upd hNu (fun _ e => by cases e)
          refine ⟨N, us, .ref p, rfl, rfl, hNu, Nat.lt_of_le_of_lt (show us.length ≤ 1152 by omega) (by decide), same_put (sG.trans s2u) nNH, (hLG.tk (.same s2u)).tk tk3, us ++ [.ref p], upd_same, by rw [List.length_append, List.length_singleton, hul], ?_⟩
          rw [hme]
          exact Paired.snoc (Paired.mapP hup fun _ _ r => (r.tk (.same s2u)).tk tk3) (hnew.tk tk3)
        cases ho : offN j m with
        | true =>
          have ea : (addN j m).2.2 = m.2.2 := by
            unfold addN
            rw [if_neg (by unfold offN at ho; simpa using ho)]
          refine iteF ⟨_, rfl, by show 3 ≤ sizeLine; decide, fun p np => ?_⟩
          obtain ⟨l, xs, yv, e1, e2, e3, e4, e5, e6, us2, e7, e8, e9⟩ := fin G' ca (Same.refl _) (by rw [ea]; exact g3) p np
          exact ⟨l, xs, yv, e1, e2, e3, e4, _, _, _, _, rfl, e5, e6, us2, e7, e8, e9⟩
        | false =>
          have ea : (addN j m).2.2 = srtN (m.2.2 ++ [j]) := by
            unfold addN
            rw [if_pos (by unfold offN at ho; simpa using ho)]
          have hle := (d.gn m (List.mem_of_getElem? hm)).le
          refine iteT ⟨_, rfl, _, rfl, by show 1 ≤ sizeLine; decide, fun p1 np1 => ?_⟩
          have u1 := same_upd (o := HO.tup [.int (j : Nat)]) np1
          refine catA_ref (u1 _ _ g3) upd_same (Nat.le_trans (show (nN m.2.2).length + 1 ≤ 257 by rw [nN_len]; omega) (by decide)) fun c2 G2 s2 hc2 => ?_
          have hc3 : G2 c2 = some (.tup (nN (m.2.2 ++ [j]))) := by
            rw [hc2]
            unfold nN
            rw [List.map_append]
            rfl
          refine ⟨Nat, c2, nN (m.2.2 ++ [j]), m.2.2 ++ [j], _, _, rfl, .of hc3, nN_pair _, sort_nats fun p2 np2 => ?_⟩
          have u3 := same_upd (o := HO.lst (nN (srtN (m.2.2 ++ [j])))) np2
          refine .inl ⟨p2, _, rfl, .of upd_same, fun p3 np3 => ⟨by show 3 ≤ sizeLine; decide, fun p np => ?_⟩⟩
          have u4 := same_upd (o := HO.tup (nN (srtN (m.2.2 ++ [j])))) np3
          obtain ⟨l, xs, yv, e1, e2, e3, e4, e5, e6, us2, e7, e8, e9⟩ := fin _ p3 ((u1.trans s2).trans (u3.trans u4)) (by rw [ea]; exact upd_same) p np
          exact ⟨l, xs, yv, e1, e2, e3, e4, _, _, _, _, rfl, e5, e6, us2, e7, e8, e9⟩
      · rintro σ G ⟨y7, y8, y9, y10, rfl, sG, hLG, us, hN, hul, hup⟩
        rw [hlw, List.take_length] at hup
        refine ⟨_, rfl, _, rfl, _, rfl, .inl ⟨N, us, rfl, .of hN, fun tn ntn => ?_⟩⟩
        have u6 := same_upd (o := HO.tup us) ntn
        exact mk_core (b := b) ((hB.same sG).same u6).nt (hLG.tk (.same u6)) ⟨us, upd_same, Paired.mapP hup fun _ _ r => r.tk (.same u6)⟩ d3 fun H' y s7 hy => by
          refine ⟨_, rfl, by show 2 ≤ sizeLine; decide, fun t nt => ?_⟩
          have u8 := same_upd (o := HO.tup [.ref y, .int (j : Nat)]) nt
          exact q5 _ y t (sG.trans (u6.trans (s7.trans u8))) (hy.same u8) upd_same
    · refine ⟨_, rfl, .none, ls.map dLf, .non, dpLvs ⟨lv, hla2, hlp2⟩, shaped_of .non (by decide), shaped_of (nice_lvs d.gl) (Nat.le_trans (dep_lvs ls) (by decide)), _, rfl, ?_⟩
      rw [any_none]
      by_cases hno : none ∈ ls
      · rw [decide_eq_true hno]
        have eg : grown h ls = (h, ls) := by unfold grown; rw [if_pos hno]
        refine iteF (hrest _ _ ⟨la, ?_, Same.refl _, ?_, fun z => z.2 hno⟩)
        · rw [eg]; rfl
        · rw [eg]; exact ⟨lv, hla2, hlp2⟩
      · rw [decide_eq_false hno]
        refine iteT ⟨_, rfl, rfl, _, rfl, ?_⟩
        by_cases h8e : h = 8
        · rw [decide_eq_true (show V.int ((h : Nat) : Int) = V.int 8 by rw [h8e]; rfl)]
          exact iteT ⟨fun _ h => s12.free h, q4 ⟨h8e, hno⟩ _ s12⟩
        · rw [decide_eq_false (show ¬ V.int ((h : Nat) : Int) = V.int 8 from fun e => h8e (by have := V.int.inj e; omega))]
          refine iteF ?_
          dsimp only [tNext]
          have eg : grown h ls = (h + 1, ls ++ List.replicate ls.length none) := by unfold grown; rw [if_neg hno]
          have h1l : 1 ≤ lv.length := by rw [hlv, hll]; exact Nat.one_le_two_pow
          refine ⟨_, rfl, _, _, rfl, rfl, _, rfl, by show 1 ≤ sizeLine; decide, fun p1 np1 => ⟨_, rfl, la, lv, rfl, .inr (hla2.same (same_upd np1)).sq, ?_⟩⟩
          refine rep_non upd_same h1l (by omega) fun p2 G3 s3 hp2 => ?_
          have s23 : Same G2 G3 := (same_upd np1).trans s3
          have hla3 := hla2.same s23
          refine ⟨la, p2, lv, List.replicate lv.length .non, rfl, rfl, hla3.sq, .of hp2, Nat.le_trans (show lv.length + (List.replicate lv.length V.non).length ≤ 512 by rw [List.length_replicate]; omega) (by decide), fun e => by rw [e] at h1l; simp at h1l, fun _ e => by rw [List.replicate_eq_nil_iff] at e; omega, fun _ _ p3 o3 ho3 np3 => ?_⟩
          have u3 := same_upd (o := HO.frz o3 (.tup (lv ++ List.replicate lv.length .non))) np3
          refine ⟨_, _, rfl, hrest _ _ ⟨p3, ?_, s23.trans u3, ?_, fun z => h8e z.1⟩⟩
          · rw [eg]; rfl
          · rw [eg]
            exact ⟨_, ⟨o3, ho3, upd_same⟩, paired_app (Paired.mapP hlp2 fun _ _ r => r.tk (.same (s23.trans u3))) (by rw [hlv]; exact paired_repl _)⟩
end
end L2.My
end
section
set_option Elab.async false
set_option linter.all false
set_option maxRecDepth 100000
set_option maxHeartbeats 4000000
/-! The law's own world: its height, leaves, book of nodes. -/
namespace L2.My
open PySem PySem.Spec PyProof.Rows PySem.W
def nkey (p : Nat × Nat) : List Key := [.inl (p.1 : Nat), .inl (p.2 : Nat)]
theorem nkey_inj {p q : Nat × Nat} (h : nkey p = nkey q) : p = q := by
  obtain ⟨a, b⟩ := p
  obtain ⟨c, d⟩ := q
  unfold nkey at h
  simp only [List.cons.injEq, Sum.inl.injEq, Int.natCast_inj, and_true] at h
  rw [h.1, h.2]
abbrev Me := Nd × Addr
/-- an entry of the book: its key, its lock, who is aside, in any order -/
def EntAt (H : Hp) (kv : List Key × V) (m : Me) : Prop := kv.1 = nkey m.1.1 ∧ ∃ a l, kv.2 = .ref a ∧ H a = some (.lst [.int m.1.2.1, .ref m.2]) ∧ H m.2 = some (.lst (nN l)) ∧ l.Perm m.1.2.2
theorem EntAt.bl {L : List Addr} {H H' : Hp} {kv : List Key × V} {m : Me} (h : EntAt H kv m) (s : BL L H H') (hL : ∀ a, H a = some (.lst [.int m.1.2.1, .ref m.2]) → a ∉ L) (hc : m.2 ∉ L) : EntAt H' kv m := by
  obtain ⟨h1, a, l, h2, h3, h4, h5⟩ := h
  exact ⟨h1, a, l, h2, s _ _ (hL a h3) h3, s _ _ hc h4, h5⟩
theorem EntAt.same {H H' : Hp} {kv : List Key × V} {m : Me} (h : EntAt H kv m) (s : Same H H') : EntAt H' kv m := by
  obtain ⟨h1, a, l, h2, h3, h4, h5⟩ := h
  exact ⟨h1, a, l, h2, s _ _ h3, s _ _ h4, h5⟩
def fndM (ms : List Me) (p : Nat × Nat) : Option Me := ms.find? fun m => decide (m.1.1 = p)
theorem ent_val {H : Hp} {kvs : List (List Key × V)} {ms : List Me} (h : Paired (EntAt H) kvs ms) (p : Nat × Nat) : (∀ m, fndM ms p = some m → ∃ a l, valV kvs (nkey p) = some (.ref a) ∧ H a = some (.lst [.int m.1.2.1, .ref m.2]) ∧ H m.2 = some (.lst (nN l)) ∧ l.Perm m.1.2.2) ∧ (fndM ms p = none → valV kvs (nkey p) = none) := by
  induction h with
  | nil => exact ⟨fun m e => (by cases e), fun _ => rfl⟩
  | @cons kv m kvs ms h1 _ ih =>
    obtain ⟨e1, a, l, e2, e3, e4, e5⟩ := h1
    unfold fndM valV
    by_cases hk : m.1.1 = p
    · rw [List.find?_cons_of_pos (by rw [hk]; exact decide_eq_true rfl), List.find?_cons_of_pos (by rw [e1, hk]; exact decide_eq_true rfl)]
      refine ⟨fun m' e => ?_, fun e => (by cases e)⟩
      cases e
      exact ⟨a, l, by rw [← e2]; rfl, e3, e4, e5⟩
    · rw [List.find?_cons_of_neg (by rw [decide_eq_true_eq]; exact hk), List.find?_cons_of_neg (by rw [decide_eq_true_eq, e1]; exact fun z => hk (nkey_inj z))]
      exact ih
theorem fndM_some {ms : List Me} {p : Nat × Nat} {m : Me} (h : fndM ms p = some m) : m ∈ ms ∧ m.1.1 = p := by
  have h' : ms.find? (fun m => decide (m.1.1 = p)) = some m := h
  have h2 := List.find?_some h'
  exact ⟨List.mem_of_find?_eq_some h', of_decide_eq_true h2⟩
theorem fndM_of {ms : List Me} {m : Me} (nk : (ms.map (·.1.1)).Nodup) (h : m ∈ ms) : fndM ms m.1.1 = some m := by
  induction ms with
  | nil => cases h
  | cons x r ih =>
    obtain ⟨n1, n2⟩ := List.nodup_cons.mp nk
    unfold fndM
    rcases List.mem_cons.mp h with rfl | h
    · exact List.find?_cons_of_pos (p := fun x : Me => decide (x.1.1 = m.1.1)) (decide_eq_true rfl)
    · refine (List.find?_cons_of_neg (p := fun x : Me => decide (x.1.1 = m.1.1)) ?_).trans (ih n2 h)
      rw [decide_eq_true_eq]
      intro e
      exact n1 (List.mem_map.mpr ⟨m, h, e.symm⟩)
theorem fndM_none {ms : List Me} {p : Nat × Nat} : fndM ms p = none ↔ p ∉ ms.map (·.1.1) := by
  unfold fndM
  rw [List.find?_eq_none]
  simp only [decide_eq_true_eq, List.mem_map, not_exists, not_and]
def putM (ms : List Me) (m : Me) : List Me := if m.1.1 ∈ ms.map (·.1.1) then ms.map (fun x => if x.1.1 = m.1.1 then m else x) else ms ++ [m]
theorem ent_put {H : Hp} {kvs : List (List Key × V)} {ms : List Me} (h : Paired (EntAt H) kvs ms) {m : Me} {v : V} (e : EntAt H (nkey m.1.1, v) m) : Paired (EntAt H) (putK kvs (nkey m.1.1) v) (putM ms m) := by
  have key : (kvs.any fun kv => decide (kv.1 = nkey m.1.1)) = decide (m.1.1 ∈ ms.map (·.1.1)) := by
    clear e
    induction h with
    | nil => rfl
    | @cons kv x kvs ms h1 _ ih =>
      rw [List.any_cons, ih, List.map_cons, h1.1, ← Bool.decide_or]
      refine decide_eq_decide.mpr ?_
      rw [List.mem_cons]
      exact or_congr_left ⟨fun z => (nkey_inj z).symm, fun z => by rw [z]⟩
  unfold putK putM
  rw [key]
  by_cases hm : m.1.1 ∈ ms.map (·.1.1)
  · rw [if_pos (decide_eq_true hm), if_pos hm]
    clear key hm
    induction h with
    | nil => exact .nil
    | @cons kv x kvs ms h1 _ ih =>
      refine .cons ?_ ih
      show EntAt H (if kv.1 = nkey m.1.1 then (kv.1, v) else kv) (if x.1.1 = m.1.1 then m else x)
      by_cases hx : x.1.1 = m.1.1
      · rw [if_pos (by rw [h1.1, hx]), if_pos hx, h1.1, hx]
        exact e
      · rw [if_neg (by rw [h1.1]; exact fun z => hx (nkey_inj z)), if_neg hx]
        exact h1
  · rw [if_neg (by rw [decide_eq_true_eq]; exact hm), if_neg hm]
    exact Paired.snoc h e
theorem putM_keys {ms : List Me} {m : Me} (nk : (ms.map (·.1.1)).Nodup) : ((putM ms m).map (·.1.1)).Nodup := by
  unfold putM
  split
  · rw [List.map_map]
    have e : ms.map ((·.1.1) ∘ fun x : Me => if x.1.1 = m.1.1 then m else x) = ms.map (·.1.1) := List.map_congr_left fun x _ => by
      show (if x.1.1 = m.1.1 then m else x).1.1 = x.1.1
      split
      · rename_i h; exact h.symm
      · rfl
    rw [e]
    exact nk
  · rename_i h
    rw [List.map_append, List.nodup_append]
    exact ⟨nk, by simp, fun x hx y hy => by
      obtain rfl : y = m.1.1 := by simpa using hy
      rintro rfl
      exact h hx⟩
theorem putM_mem {ms : List Me} {m x : Me} : x ∈ putM ms m ↔ x = m ∨ x ∈ ms ∧ x.1.1 ≠ m.1.1 := by
  unfold putM
  split
  · rename_i h
    rw [List.mem_map]
    constructor
    · rintro ⟨y, hy, e⟩
      split at e
      · exact .inl e.symm
      · rename_i hn
        rw [← e]
        exact .inr ⟨hy, hn⟩
    · rintro (rfl | ⟨h1, h2⟩)
      · obtain ⟨y, hy, e⟩ := List.mem_map.mp h
        exact ⟨y, hy, if_pos e⟩
      · exact ⟨x, h1, if_neg h2⟩
  · rename_i h
    rw [List.mem_append, List.mem_singleton]
    constructor
    · rintro (h1 | h1)
      · exact .inr ⟨h1, fun e => h (by rw [← e]; exact List.mem_map_of_mem h1)⟩
      · exact .inl h1
    · rintro (h1 | ⟨h1, _⟩)
      · exact .inr h1
      · exact .inl h1
/-- the world -/
structure Wd (H : Hp) (w lv nd : Addr) (ms : List Me) (h : Nat) (ls : List Lf) (ns : List Nd) : Prop where
  w : H w = some (.dK [(.inr "height", .int (h : Nat)), (.inr "leaves", .ref lv), (.inr "nodes", .ref nd)])
  lv : ∃ vs, H lv = some (.lst vs) ∧ Paired (LfAt H) vs ls
  nd : ∃ kvs, H nd = some (.dT kvs) ∧ Paired (EntAt H) kvs ms
  nk : (ms.map (·.1.1)).Nodup
  nc : (ms.map (·.2)).Nodup
  mem : ∀ n, n ∈ ms.map (·.1) ↔ n ∈ ns
/-- what may be written -/
def own (w lv nd : Addr) (ms : List Me) : List Addr := w :: lv :: nd :: ms.map (·.2)
theorem Wd.same {H H' : Hp} {w lv nd : Addr} {ms : List Me} {h : Nat} {ls : List Lf} {ns : List Nd} (x : Wd H w lv nd ms h ls ns) (s : Same H H') : Wd H' w lv nd ms h ls ns := by
  obtain ⟨vs, e1, e2⟩ := x.lv
  obtain ⟨kvs, f1, f2⟩ := x.nd
  exact ⟨s _ _ x.w, ⟨vs, s _ _ e1, Paired.mapP e2 fun _ _ r => r.tk (.same s)⟩, ⟨kvs, s _ _ f1, Paired.mapP f2 fun _ _ r => r.same s⟩, x.nk, x.nc, x.mem⟩
theorem paired_impM {α β : Type} {R R' : α → β → Prop} {xs : List α} {ys : List β} (h : Paired R xs ys) (f : ∀ x y, y ∈ ys → R x y → R' x y) : Paired R' xs ys := by
  induction h with
  | nil => exact .nil
  | cons r _ ih => exact .cons (f _ _ List.mem_cons_self r) (ih fun x y hy => f x y (List.mem_cons_of_mem _ hy))
theorem paired_mem {α β : Type} {R : α → β → Prop} {xs : List α} {ys : List β} (h : Paired R xs ys) {y : β} (hy : y ∈ ys) : ∃ x ∈ xs, R x y := by
  induction h with
  | nil => cases hy
  | cons r _ ih =>
    rcases List.mem_cons.mp hy with rfl | hy
    · exact ⟨_, List.mem_cons_self, r⟩
    · obtain ⟨x, h1, h2⟩ := ih hy
      exact ⟨x, List.mem_cons_of_mem _ h1, h2⟩
theorem Wd.ent {H : Hp} {w lv nd : Addr} {ms : List Me} {h : Nat} {ls : List Lf} {ns : List Nd} (x : Wd H w lv nd ms h ls ns) {m : Me} (hm : m ∈ ms) : ∃ l, H m.2 = some (.lst (nN l)) ∧ l.Perm m.1.2.2 := by
  obtain ⟨kvs, f1, f2⟩ := x.nd
  obtain ⟨kv, _, _, a, l, _, _, h4, h5⟩ := paired_mem f2 hm
  exact ⟨l, h4, h5⟩
theorem Wd.there {H : Hp} {w lv nd : Addr} {ms : List Me} {h : Nat} {ls : List Lf} {ns : List Nd} (x : Wd H w lv nd ms h ls ns) {a : Addr} (ha : a ∈ own w lv nd ms) : H a ≠ none := by
  unfold own at ha
  rcases List.mem_cons.mp ha with rfl | ha
  · rw [x.w]; simp
  rcases List.mem_cons.mp ha with rfl | ha
  · obtain ⟨vs, e1, _⟩ := x.lv
    rw [e1]; simp
  rcases List.mem_cons.mp ha with rfl | ha
  · obtain ⟨kvs, e1, _⟩ := x.nd
    rw [e1]; simp
  · obtain ⟨m, hm, rfl⟩ := List.mem_map.mp ha
    obtain ⟨l, e, _⟩ := x.ent hm
    rw [e]; simp
theorem Wd.bl {L : List Addr} {H H' : Hp} {w lv nd : Addr} {ms : List Me} {h : Nat} {ls : List Lf} {ns : List Nd} (x : Wd H w lv nd ms h ls ns) (s : BL L H H') (tk : TK H H') (hL : ∀ a ∈ own w lv nd ms, a ∉ L) (hf : ∀ a ∈ L, ∀ i c, H a ≠ some (.lst [.int i, .ref c])) : Wd H' w lv nd ms h ls ns := by
  obtain ⟨vs, e1, e2⟩ := x.lv
  obtain ⟨kvs, f1, f2⟩ := x.nd
  have o := hL
  refine ⟨s _ _ (o _ (by simp [own])) x.w, ⟨vs, s _ _ (o _ (by simp [own])) e1, Paired.mapP e2 fun _ _ r => r.tk tk⟩, ⟨kvs, s _ _ (o _ (by simp [own])) f1, ?_⟩, x.nk, x.nc, x.mem⟩
  exact paired_impM f2 fun kv m hm r => r.bl s (fun a e ha => hf a ha _ _ e) (o _ (by simp only [own, List.mem_cons, List.mem_map]; exact .inr (.inr (.inr ⟨m, hm, rfl⟩))))
end L2.My
end
section
set_option Elab.async false
set_option linter.all false
set_option maxRecDepth 100000
set_option maxHeartbeats 4000000
/-! _law_above, _law_world. -/
namespace L2.My
open PySem PySem.Spec PyProof.Rows PySem.W
abbrev sWrl : Stmt := top 40
abbrev sAbv : Stmt := top 42
abbrev worldL (h : Nat) (lv nd : Addr) : List (Key × V) := [(.inr "height", .int (h : Nat)), (.inr "leaves", .ref lv), (.inr "nodes", .ref nd)]
section
variable {H : Hp} {w lv nd : Addr} {h : Nat}
theorem wx_h (e : H w = some (.dK (worldL h lv nd))) : DGet H w (.str "height") (some (.int (h : Nat))) := .inl ⟨_, .inr "height", .inl e, rfl, rfl⟩
theorem wx_l (e : H w = some (.dK (worldL h lv nd))) : DGet H w (.str "leaves") (some (.ref lv)) := .inl ⟨_, .inr "leaves", .inl e, rfl, rfl⟩
theorem wx_n (e : H w = some (.dK (worldL h lv nd))) : DGet H w (.str "nodes") (some (.ref nd)) := .inl ⟨_, .inr "nodes", .inl e, rfl, rfl⟩
end
/-- the parts of a tree in a list -/
def PtIn (H : Hp) (p : Addr) (h : Nat) (ls : List Lf) (ns : List Nd) : Prop := ∃ la na, H p = some (.lst [.int (h : Nat), .ref la, .ref na]) ∧ LvsAt H la ls ∧ NdsAt H na ns
theorem PtIn.same {H H' : Hp} {p : Addr} {h : Nat} {ls : List Lf} {ns : List Nd} (t : PtIn H p h ls ns) (s : Same H H') : PtIn H' p h ls ns := by
  obtain ⟨la, na, h1, h2, h3⟩ := t
  exact ⟨la, na, s _ _ h1, h2.tk (.same s), h3.tk (.same s)⟩
theorem pathL_succ (i j : Nat) : pathL (i + 1) j = pathL i j ++ [(i + 1, j / 2 ^ (i + 1))] := by
  unfold pathL
  rw [List.range_succ, List.map_append]
  rfl
theorem EntAt.upd {H : Hp} {kv : List Key × V} {m : Me} {D : Addr} {kvs : List (List Key × V)} {o : HO} (h : EntAt H kv m) (hD : H D = some (.dT kvs)) : EntAt (upd H D o) kv m := by
  obtain ⟨h1, a, l, h2, h3, h4, h5⟩ := h
  exact ⟨h1, a, l, h2, by rw [upd_ne (fun e => by rw [e, hD] at h3; cases h3)]; exact h3, by rw [upd_ne (fun e => by rw [e, hD] at h4; cases h4)]; exact h4, h5⟩
theorem EntAt.updK {H : Hp} {kv : List Key × V} {m : Me} {D : Addr} {kvs : List (Key × V)} {o : HO} (h : EntAt H kv m) (hD : H D = some (.dK kvs)) : EntAt (L2.upd H D o) kv m := by
  obtain ⟨h1, a, l, h2, h3, h4, h5⟩ := h
  exact ⟨h1, a, l, h2, by rw [upd_ne (fun e => by rw [e, hD] at h3; cases h3)]; exact h3, by rw [upd_ne (fun e => by rw [e, hD] at h4; cases h4)]; exact h4, h5⟩
def spAbv : Sp := fun vs H Q _ => ∃ (w lv nd : Addr) (h j : Nat), vs = [.ref w, .int (j : Nat)] ∧ H w = some (.dK (worldL h lv nd)) ∧ h ≤ 8 ∧ ∀ H' a us, Same H H' → H a = none → H' a = some (.lst us) → Paired (PrAt H') us (pathL h j) → Q (.ref a) H'
def spWrl : Sp := fun vs H Q _ => ∃ (p : Addr) (h : Nat) (ls : List Lf) (ns : List Nd), vs = [.ref p] ∧ PtIn H p h ls ns ∧ DrT h ls ns ∧ ∀ H' w lv nd ms, Same H H' → Wd H' w lv nd ms h ls ns → (∀ a ∈ own w lv nd ms, H a = none) → Q (.ref w) H'
section
variable {P : Program} {w : World} {K : PySem.W.Frag} {mg : Str → Option Value} {base : Heap}
theorem scAbv : FnScope ["w", "leaf", "found", "index", "level"] ["w", "leaf"] (defScope sAbv) := ⟨rfl, rfl, rfl, by decide +kernel, rfl, by decide +kernel, by decide +kernel⟩
theorem ok_abv {f : Addr} {fd : FuncData} {k : Nat} (F : Fun K "_law_above" "_law_above" sAbv f fd) (T : Tx mg) : FnOk P w K mg base CX0 (k + 1) f fd ["w", "leaf"] spAbv := by
  refine F.ok scAbv (fun vs H Q E h => ?_) (fun cdv A outer s H vs Q E hr h => ?_)
  · obtain ⟨w, lv, nd, h, j, rfl, _⟩ := h
    rfl
  · obtain ⟨w, lv, nd, h, j, rfl, hw, h8, q⟩ := h
    refine ⟨_, (pss_cons (ps_set (i := 2) scAbv.nd rfl (Or.inl rfl) (pe_lst pa_nil)) (pss_cons (ps_set (i := 3) scAbv.nd rfl (Or.inl rfl) (pv 1)) (pss_cons (ps_for PassesOwn.never rfl (pi_range2 (by rfl) T.range_ (pa_cons pe_int (pa_cons (pe_op op_add (pe_dget (u1 hr) (pv 0) pe_str (fun _ _ => rfl)) pe_int) pa_nil))) (pg_name (i := 4) scAbv.nd rfl (Or.inl rfl)) (pss_cons (ps_set (i := 3) scAbv.nd rfl (Or.inl rfl) (pe_op op_fdiv (pv 3) pe_int)) (pss_one (ps_expr (pe_bm PySem.F.plainAttrs_list PySem.F.slot_list_append PySem.F.type_list_append mt_append (pv 2) (pa_cons (pe_tup (pa_cons (pv 4) (pa_cons (pv 3) pa_nil))) pa_nil)))))) (pss_one (ps_ret (pv 2)))))), ?_⟩
    refine ⟨Nat.zero_le _, fun D nD => ?_⟩
    have s1 := same_upd (o := HO.lst []) nD
    have hD1 : (upd H D (.lst [])) D = some (.lst []) := upd_same
    have hw1 := s1 _ _ hw
    generalize upd H D (.lst []) = H1 at *
    refine ⟨_, rfl, ?_⟩
    dsimp only [gName]
    refine ⟨_, rfl, w, _, rfl, wx_h hw1, _, _, rfl, rfl, _, _, rfl, ⟨by decide, by decide, by omega, by omega⟩, ?_⟩
    refine for_it (walk_range (lo := 1)) (fun i σ G => ∃ (y4 : Option V) (us : List V), σ = [some (.ref w), some (.int (j : Nat)), some (.ref D), some (.int ((j / 2 ^ i : Nat) : Int)), y4] ∧ Same H G ∧ G D = some (.lst us) ∧ Paired (PrAt G) us (pathL i j)) ⟨_, [], by rw [Nat.pow_zero, Nat.div_one]; rfl, s1, hD1, .nil⟩ (fun i σ G _ _ => trivial) ?_ ?_
    · rintro i y σ G G' hi ⟨y4, us, rfl, sG, hD, hp⟩ ⟨rfl, rfl⟩
      have hi8 : i < 8 := by omega
      dsimp only [gName]
      refine ⟨_, rfl, _, _, rfl, rfl, ⟨by decide, by decide⟩, ?_⟩
      have e2 : ((j / 2 ^ i : Nat) : Int) / 2 = ((j / 2 ^ (i + 1) : Nat) : Int) := by
        rw [Nat.pow_succ, ← Nat.div_div_eq_div_mul]
        omega
      have e1 : (1 + (i : Int)) = ((i + 1 : Nat) : Int) := by omega
      dsimp only
      rw [e2, e1]
      refine ⟨_, rfl, .inl ⟨rfl, _, SqL.of hD⟩, _, rfl, _, rfl, by show 2 ≤ sizeLine; decide, fun p np => ?_⟩
      have u := same_upd (o := HO.tup [.int ((i + 1 : Nat) : Int), .int ((j / 2 ^ (i + 1) : Nat) : Int)]) np
      have hDu := u _ _ hD
      have npD : p ≠ D := fun e => by rw [e, hD] at np; cases np
      have hul : us.length = i := by rw [Paired.len hp]; unfold pathL; rw [List.length_map, List.length_range]
      refine ⟨D, us, .ref p, rfl, rfl, hDu, Nat.lt_of_le_of_lt (show us.length ≤ 8 by omega) (by decide), _, us ++ [.ref p], rfl, same_put (sG.trans u) nD, upd_same, ?_⟩
      have tk : TK G' (upd (upd G' p (.tup [.int ((i + 1 : Nat) : Int), .int ((j / 2 ^ (i + 1) : Nat) : Int)])) D (.lst (us ++ [.ref p]))) := (TK.same u).trans (.upd hDu (fun _ e => by cases e))
      rw [pathL_succ]
      exact Paired.snoc (Paired.mapP hp fun _ _ r => r.tk tk) ⟨p, rfl, by rw [upd_ne npD, upd_same]⟩
    · rintro σ G ⟨y4, us, rfl, sG, hD, hp⟩
      have e : (((h : Nat) : Int) + 1 - 1).toNat = h := by omega
      rw [e] at hp
      exact ⟨_, rfl, q G D us sG nD hD hp⟩
theorem scWrl : FnScope ["parts", "nodes", "node", "lock", "aside"] ["parts"] (defScope sWrl) := ⟨rfl, rfl, rfl, by decide +kernel, rfl, by decide +kernel, by decide +kernel⟩
theorem ok_wrl {f : Addr} {fd : FuncData} {k : Nat} (F : Fun K "_law_world" "_law_world" sWrl f fd) (T : Tx mg) : FnOk P w K mg base CX0 (k + 1) f fd ["parts"] spWrl := by
  refine F.ok scWrl (fun vs H Q E h => ?_) (fun cdv A outer s H vs Q E hr h => ?_)
  · obtain ⟨p, h, ls, ns, rfl, _⟩ := h
    rfl
  · obtain ⟨p, h, ls, ns, rfl, hP, d, q⟩ := h
    refine ⟨_, (pss_cons (ps_set (i := 1) scWrl.nd rfl (Or.inl rfl) pe_dnewT) (pss_cons (ps_for PassesOwn.never rfl (pi_tup (pe_ix ix_list (pv 0) pe_int (fun _ _ => rfl))) (pg_tup rfl (pgs_cons (pg_name (i := 2) scWrl.nd rfl (Or.inl rfl)) (pgs_cons (pg_name (i := 3) scWrl.nd rfl (Or.inl rfl)) (pgs_cons (pg_name (i := 4) scWrl.nd rfl (Or.inl rfl)) pgs_nil)))) (pss_one (ps_dput (u1 hr) (pv 1) (pv 2) (pe_lst (pa_cons (pv 3) (pa_cons (pe_callTy call_list_of (by rfl) T.list_ (by decide +kernel) (pa_cons (pv 4) pa_nil)) pa_nil))) rfl))) (pss_one (ps_ret (pe_disp (pps_cons pe_str (pe_ix ix_list (pv 0) pe_int (fun _ _ => rfl)) (pps_cons pe_str (pe_callTy call_list_of (by rfl) T.list_ (by decide +kernel) (pa_cons (pe_ix ix_list (pv 0) pe_int (fun _ _ => rfl)) pa_nil)) (pps_cons pe_str (pv 1) pps_nil))) (by rfl) (by rfl) (fun z => by cases z) (by decide)))))), ?_⟩
    obtain ⟨la, na, hp, ⟨lv, hla, hlp⟩, ⟨wv, hna, hnp⟩⟩ := id hP
    have hnl := d.nl
    have l256 := d.l256
    have hlw := Paired.len hnp
    have hlv := Paired.len hlp
    have nk : (ns.map (·.1)).Nodup := List.pairwise_map.mpr ((pwK_of d).imp kl_ne)
    refine fun D nD => ?_
    have s1 := same_upd (o := HO.dT []) nD
    have hD1 : (upd H D (.dT [])) D = some (.dT []) := upd_same
    generalize upd H D (.dT []) = H1 at *
    dsimp only [gName]
    refine ⟨_, rfl, p, _, _, .ref na, rfl, rfl, .of (s1 _ _ hp), atI_nat (j := 2) rfl, na, rfl, ⟨_, .of (s1 _ _ hna)⟩, ?_⟩
    refine for_it (walk_tup (xs := wv)) (fun i σ G => ∃ (y2 y3 y4 : Option V) (kvs : List (List Key × V)) (ms : List Me), σ = [some (.ref p), some (.ref D), y2, y3, y4] ∧ Same H G ∧ G D = some (.dT kvs) ∧ Paired (EntAt G) kvs ms ∧ ms.map (·.1) = ns.take i ∧ (ms.map (·.2)).Nodup ∧ ∀ c ∈ ms.map (·.2), H c = none ∧ c ≠ D) ⟨_, _, _, [], [], rfl, s1, hD1, .nil, rfl, List.nodup_nil, (by simp)⟩ (fun i σ G _ hG => by obtain ⟨_, _, _, _, _, _, sG, _⟩ := hG; exact .of (sG _ _ hna)) ?_ ?_
    · rintro i y σ G G' hi ⟨y2, y3, y4, kvs, ms, rfl, sG, hD, hpE, hms, hnc, hfr⟩ ⟨rfl, hy⟩
      obtain ⟨m, hm, hnd⟩ := Paired.at' hnp hy
      obtain ⟨a, nda, ca, rfl, g1, g2, g3⟩ := hnd.tk (.same sG)
      have hle := (d.gn m (List.mem_of_getElem? hm)).le
      refine ⟨a, _, rfl, .of g1, rfl, _, _, rfl, _, _, rfl, _, _, rfl, rfl, ?_⟩
      refine ⟨_, rfl, _, rfl, ca, nN m.2.2, rfl, .inr (.of g3), fun l1 nl1 => ?_⟩
      have u1 := same_upd (o := HO.lst (nN m.2.2)) nl1
      refine ⟨by show 2 ≤ sizeLine; decide, fun l2 nl2 => ?_⟩
      have u2 := same_upd (o := HO.lst [.int m.2.1, .ref l1]) nl2
      have u := u1.trans u2
      have hl1 := u2 _ _ (upd_same (H := G') (a := l1) (o := HO.lst (nN m.2.2)))
      have hl2 : (upd (upd G' l1 (.lst (nN m.2.2))) l2 (.lst [.int m.2.1, .ref l1])) l2 = some (.lst [.int m.2.1, .ref l1]) := upd_same
      have nl1H : H l1 = none := sG.free nl1
      have n1D : l1 ≠ D := fun e => by rw [e, hD] at nl1; cases nl1
      have hkl : kvs.length = i := by
        have e1 := Paired.len hpE
        have e2 := congrArg List.length hms
        rw [List.length_map, List.length_take] at e2
        omega
      have nc1 : l1 ∉ ms.map (·.2) := fun hc => by
        obtain ⟨x, hx, rfl⟩ := List.mem_map.mp hc
        obtain ⟨kv, _, _, a', l', _, _, h4, _⟩ := paired_mem hpE hx
        rw [h4] at nl1
        cases nl1
      have hDu := u _ _ hD
      have g2u := u _ _ g2
      generalize upd (upd G' l1 (.lst (nN m.2.2))) l2 (.lst [.int m.2.1, .ref l1]) = G2 at *
      refine ⟨_, rfl, _, rfl, D, _, rfl, DPut.t (k := nkey m.1) hDu g2u (Nat.lt_of_le_of_lt (show kvs.length ≤ 1152 by omega) (by decide)), ?_⟩
      have hne : m.1 ∉ ms.map (·.1.1) := fun hk => by
        have e : ms.map (·.1.1) = (ns.take i).map (·.1) := by rw [← hms, List.map_map]; rfl
        rw [e] at hk
        have n2 : ((ns.take (i + 1)).map (·.1)).Nodup := nk.sublist ((List.take_sublist _ _).map _)
        rw [take_snoc hm, List.map_append, List.nodup_append] at n2
        exact n2.2.2 _ hk _ (List.mem_singleton.mpr rfl) rfl
      have hput : putM ms (m, l1) = ms ++ [(m, l1)] := by unfold putM; rw [if_neg hne]
      refine ⟨_, _, _, _, putM ms (m, l1), rfl, same_put (sG.trans u) nD, upd_same, ?_, ?_, ?_, ?_⟩
      · refine ent_put (paired_impM hpE fun kv x hx r => (r.same u).upd hDu) (m := (m, l1)) ⟨rfl, l2, m.2.2, rfl, ?_, ?_, .refl _⟩
        · rw [upd_ne (fun e => by rw [e, hDu] at hl2; cases hl2)]
          exact hl2
        · rw [upd_ne n1D]
          exact hl1
      · rw [hput, List.map_append, hms, take_snoc hm]
        rfl
      · rw [hput, List.map_append, List.nodup_append]
        exact ⟨hnc, by simp, fun x hx y hy => by
          obtain rfl : y = l1 := by simpa using hy
          rintro rfl
          exact nc1 hx⟩
      · intro c hc
        rw [hput, List.map_append] at hc
        rcases List.mem_append.mp hc with hc | hc
        · exact hfr c hc
        · obtain rfl : c = l1 := by simpa using hc
          exact ⟨nl1H, n1D⟩
    · rintro σ G ⟨y2, y3, y4, kvs, ms, rfl, sG, hD, hpE, hms, hnc, hfr⟩
      rw [hlw, List.take_length] at hms
      refine fun w nw => ?_
      have u1 := same_upd (o := HO.dK []) nw
      have hw1 : (upd G w (.dK [])) w = some (.dK []) := upd_same
      have nwD : w ≠ D := fun e => by rw [e, hD] at nw; cases nw
      have nwH := sG.free nw
      have nwc : w ∉ ms.map (·.2) := fun hc => by
        obtain ⟨x, hx, rfl⟩ := List.mem_map.mp hc
        obtain ⟨kv, _, _, a', l', _, _, h4, _⟩ := paired_mem hpE hx
        rw [h4] at nw
        cases nw
      have s2 := sG.trans u1
      have hD2 := u1 _ _ hD
      have hpE2 := Paired.mapP hpE fun _ _ r => r.same u1
      generalize upd G w (.dK []) = G2 at *
      refine ⟨_, rfl, p, _, _, .int (h : Nat), rfl, rfl, .of (s2 _ _ hp), atI_nat (j := 0) rfl, _, rfl, p, _, _, .ref la, rfl, rfl, .of (s2 _ _ hp), atI_nat (j := 1) rfl, la, lv, rfl, .inr (hla.same s2).sq, fun l nl => ⟨_, rfl, ?_⟩⟩
      have u3 := same_upd (o := HO.lst lv) nl
      have nlw : l ≠ w := fun e => by rw [e, hw1] at nl; cases nl
      have s3 := s2.trans u3
      refine ⟨u3 _ _ hw1, worldL h l D, rfl, by show 3 ≤ 15; decide, ?_⟩
      have hw3 := u3 _ _ hw1
      have nlH := s2.free nl
      have hl3 : (upd G2 l (.lst lv)) l = some (.lst lv) := upd_same
      have hD3 := u3 _ _ hD2
      have hlp3 := Paired.mapP hlp fun _ _ r => r.tk (.same s3)
      have hpE3 := Paired.mapP hpE2 fun _ _ r => r.same u3
      generalize upd G2 l (.lst lv) = G3 at *
      have tk4 : TK G3 (upd G3 w (.dK (worldL h l D))) := .upd hw3 (fun _ e => by cases e)
      refine q _ w l D ms (same_put s3 nwH) ⟨upd_same, ⟨lv, by rw [upd_ne nlw]; exact hl3, Paired.mapP hlp3 fun _ _ r => r.tk tk4⟩, ⟨kvs, by rw [upd_ne (Ne.symm nwD)]; exact hD3, paired_impM hpE3 fun kv x hx r => r.updK hw3⟩, ?_, hnc, fun n => by rw [hms]⟩ ?_
      · rw [show ms.map (·.1.1) = ns.map (·.1) by rw [← hms, List.map_map]; rfl]
        exact nk
      · intro a ha
        unfold own at ha
        rcases List.mem_cons.mp ha with rfl | ha
        · exact nwH
        rcases List.mem_cons.mp ha with rfl | ha
        · exact nlH
        rcases List.mem_cons.mp ha with rfl | ha
        · exact nD
        · exact (hfr a ha).1
end
end L2.My
end
section
set_option Elab.async false
set_option linter.all false
set_option maxRecDepth 100000
set_option maxHeartbeats 4000000
/-! _law_shown. -/
namespace L2.My
open PySem PySem.Spec PyProof.Rows PySem.W
abbrev sShw : Stmt := top 41
def dKy (p : Nat × Nat) : PyData := .tuple [.int (p.1 : Nat), .int (p.2 : Nat)]
theorem leK (p q : Nat × Nat) : dataLe false dKy p q = decide (p.1 < q.1 ∨ p.1 = q.1 ∧ p.2 ≤ q.2) := by
  have e : dataLe false dKy = dataLe false (fun b : Nat × Nat => .tuple [.int ((fun b : Nat × Nat => (b.1 : Int)) b), .int ((fun b : Nat × Nat => (b.2 : Int)) b)]) := rfl
  rw [e, dataLe_ii]
  exact decide_eq_decide.mpr (by omega)
theorem srt_keys {bs : List (Nat × Nat)} {ns : List Nd} (nb : bs.Nodup) (p : PwK ns) (m : ∀ k, k ∈ bs ↔ k ∈ ns.map (·.1)) : bs.mergeSort (dataLe false dKy) = ns.map (·.1) := by
  have nn : (ns.map (·.1)).Nodup := List.pairwise_map.mpr (p.imp kl_ne)
  have pm : bs.Perm (ns.map (·.1)) := (List.perm_ext_iff_of_nodup nb nn).mpr m
  have s1 := List.pairwise_mergeSort (le := dataLe false dKy) (fun a b c x y => by rw [leK, decide_eq_true_iff] at *; omega) (fun a b => by rw [leK, leK, Bool.or_eq_true, decide_eq_true_iff, decide_eq_true_iff]; omega) bs
  have s2 : (ns.map (·.1)).Pairwise fun a b => dataLe false dKy a b = true := List.pairwise_map.mpr (p.imp fun {a b} h => by rw [leK, decide_eq_true_iff]; unfold kl at h; omega)
  refine ((List.mergeSort_perm bs _).trans pm).eq_of_pairwise (fun a b _ _ x y => ?_) s1 s2
  rw [leK, decide_eq_true_iff] at x y
  exact Prod.ext (by omega) (by omega)
theorem rise_uniq : ∀ {l m : List Int}, l.Pairwise (· ≤ ·) → m.Pairwise (· ≤ ·) → l.Perm m → l = m := fun h1 h2 p => p.eq_of_pairwise (fun a b _ _ x y => by omega) h1 h2
theorem Wd.look {H : Hp} {w lv nd : Addr} {ms : List Me} {h : Nat} {ls : List Lf} {ns : List Nd} (x : Wd H w lv nd ms h ls ns) {n : Nd} (hn : n ∈ ns) : ∃ c a l kvs, (n, c) ∈ ms ∧ H nd = some (.dT kvs) ∧ valV kvs (nkey n.1) = some (.ref a) ∧ H a = some (.lst [.int n.2.1, .ref c]) ∧ H c = some (.lst (nN l)) ∧ l.Perm n.2.2 := by
  obtain ⟨m, hm, e⟩ := List.mem_map.mp ((x.mem n).mpr hn)
  obtain ⟨kvs, f1, f2⟩ := x.nd
  obtain ⟨a, l, v1, v2, v3, v4⟩ := (ent_val f2 m.1.1).1 m (fndM_of x.nk hm)
  obtain ⟨n', c⟩ := m
  obtain rfl : n' = n := e
  exact ⟨c, a, l, kvs, hm, f1, v1, v2, v3, v4⟩
theorem Wd.keys {H : Hp} {w lv nd : Addr} {ms : List Me} {h : Nat} {ls : List Lf} {ns : List Nd} (x : Wd H w lv nd ms h ls ns) (k : Nat × Nat) : k ∈ ms.map (·.1.1) ↔ k ∈ ns.map (·.1) := by
  constructor
  · intro hk
    obtain ⟨m, hm, rfl⟩ := List.mem_map.mp hk
    exact List.mem_map_of_mem ((x.mem m.1).mp (List.mem_map_of_mem hm))
  · intro hk
    obtain ⟨n, hn, rfl⟩ := List.mem_map.mp hk
    obtain ⟨m, hm, e⟩ := List.mem_map.mp ((x.mem n).mpr hn)
    exact List.mem_map.mpr ⟨m, hm, by rw [← e]⟩
theorem ent_keys {H : Hp} {kvs : List (List Key × V)} {ms : List Me} (h : Paired (EntAt H) kvs ms) : Paired (fun (kv : List Key × V) b => ∀ c, H c = some (.tup (kv.1.map kV)) → PrAt H (.ref c) b) kvs (ms.map (·.1.1)) := by
  induction h with
  | nil => exact .nil
  | cons r _ ih => exact .cons (fun c hc => ⟨c, rfl, by rw [r.1] at hc; exact hc⟩) ih
def spShw : Sp := fun vs H Q _ => ∃ (w lv nd : Addr) (ms : List Me) (h : Nat) (ls : List Lf) (ns : List Nd), vs = [.ref w] ∧ Wd H w lv nd ms h ls ns ∧ DrT h ls ns ∧ ∀ H' t, Same H H' → H t = none → PtIn H' t h ls ns → Q (.ref t) H'
section
variable {P : Program} {w : World} {K : PySem.W.Frag} {mg : Str → Option Value} {base : Heap}
theorem scShw : FnScope ["w", "nodes", "node"] ["w"] (defScope sShw) := ⟨rfl, rfl, rfl, by decide +kernel, rfl, by decide +kernel, by decide +kernel⟩
theorem ok_shw {f : Addr} {fd : FuncData} {k : Nat} (F : Fun K "_law_shown" "_law_shown" sShw f fd) (T : Tx mg) (hso : mg "sorted" = none) : FnOk P w K mg base CX0 (k + 1) f fd ["w"] spShw := by
  refine F.ok scShw (fun vs H Q E h => ?_) (fun cdv A outer s H vs Q E hr h => ?_)
  · obtain ⟨w, lv, nd, ms, h, ls, ns, rfl, _⟩ := h
    rfl
  · obtain ⟨w, lv, nd, ms, h, ls, ns, rfl, W, d, q⟩ := h
    refine ⟨_, (pss_cons (ps_set (i := 1) scShw.nd rfl (Or.inl rfl) (pe_lst pa_nil)) (pss_cons (ps_for PassesOwn.never rfl (pi_list (pe_callB (cr_sortKD rfl hr.units) (by rfl) hso (by decide +kernel) (pa_cons (pe_dget (u1 hr) (pv 0) pe_str (fun _ _ => rfl)) pa_nil))) (pg_name (i := 2) scShw.nd rfl (Or.inl rfl)) (pss_one (ps_expr (pe_bm PySem.F.plainAttrs_list PySem.F.slot_list_append PySem.F.type_list_append mt_append (pv 1) (pa_cons (pe_tup (pa_cons (pv 2) (pa_cons (pe_ix ix_list (pe_dget (u1 hr) (pe_dget (u1 hr) (pv 0) pe_str (fun _ _ => rfl)) (pv 2) (fun _ _ => rfl)) pe_int (fun _ _ => rfl)) (pa_cons (pe_tupleOf (by rfl) T.tuple_ (pe_callB cr_sortedI (by rfl) hso (by decide +kernel) (pa_cons (pe_ix ix_list (pe_dget (u1 hr) (pe_dget (u1 hr) (pv 0) pe_str (fun _ _ => rfl)) (pv 2) (fun _ _ => rfl)) pe_int (fun _ _ => rfl)) pa_nil))) pa_nil)))) pa_nil))))) (pss_one (ps_ret (pe_lst (pa_cons (pe_dget (u1 hr) (pv 0) pe_str (fun _ _ => rfl)) (pa_cons (pe_tupleF (by rfl) T.tuple_ (pe_dget (u1 hr) (pv 0) pe_str (fun _ _ => rfl))) (pa_cons (pe_tupleOf (by rfl) T.tuple_ (pv 1)) pa_nil)))))))), ?_⟩
    have hnl := d.nl
    have pk := pwK_of d
    refine ⟨Nat.zero_le _, fun D nD => ?_⟩
    have s1 := same_upd (o := HO.lst []) nD
    have hD1 : (upd H D (.lst [])) D = some (.lst []) := upd_same
    have W1 := W.same s1
    generalize upd H D (.lst []) = H1 at *
    obtain ⟨kvs, f1, f2⟩ := W1.nd
    dsimp only [gName]
    refine ⟨_, rfl, w, _, rfl, wx_n W1.w, Nat × Nat, nd, kvs, ms.map (·.1.1), dKy, PrAt H1, rfl, .of f1, ?_, ⟨fun v b r => ?_, .of fun _ _ => by simp [dKy, alike, alikeAll], .tuples fun b => ⟨_, _, rfl⟩, fun b _ => by simp [dKy, PyData.depth, PyData.depthAll], fun ys sp hys nsp => ?_⟩⟩
    · exact ent_keys f2
    · obtain ⟨a, rfl, e⟩ := r
      exact .tup (.of e) (.cons (.int _) (.cons (.int _) .nil))
    rw [srt_keys W1.nk pk W1.keys] at hys
    have s2 := same_upd (o := HO.lst ys) nsp
    have s12 := s1.trans s2
    have hsp : (upd H1 sp (.lst ys)) sp = some (.lst ys) := upd_same
    have hD2 := s2 _ _ hD1
    have W2 := W1.same s2
    have hys2 := Paired.mapP hys fun _ _ r => r.tk (.same s2)
    have hyl : ys.length = ns.length := by rw [Paired.len hys, List.length_map]
    have nspD : sp ≠ D := fun e => by rw [e, hD1] at nsp; cases nsp
    generalize upd H1 sp (.lst ys) = H2 at *
    refine ⟨sp, rfl, ⟨_, SqL.of hsp⟩, ?_⟩
    refine for_it (walk_list (xs := ys)) (fun i σ G => ∃ (y2 : Option V) (us : List V), σ = [some (.ref w), some (.ref D), y2] ∧ BL [D] H2 G ∧ Same H G ∧ G D = some (.lst us) ∧ Paired (NdAt G) us (ns.take i)) ⟨_, [], rfl, .refl, s12, hD2, .nil⟩ (fun i σ G _ hG => by obtain ⟨_, _, _, b1, _⟩ := hG; exact SqL.of (b1 _ _ (by simpa using nspD) hsp)) ?_ ?_
    · rintro i y σ G G' hi ⟨y2, us, rfl, b1, sG, hD, hp⟩ ⟨rfl, hy⟩
      obtain ⟨kk, hkk, a0, rfl, hpr⟩ := Paired.at' hys2 hy
      rw [List.getElem?_map] at hkk
      cases hn : ns[i]? with
      | none => rw [hn] at hkk; cases hkk
      | some n =>
      rw [hn] at hkk
      obtain rfl : n.1 = kk := Option.some.inj hkk
      have a0D : a0 ≠ D := fun e => by rw [e, hD2] at hpr; cases hpr
      have hpr := b1 _ _ (by simpa using a0D) hpr
      have WG := W.same sG
      obtain ⟨c, a, l, kvs', hmc, g0, g1, g2, g3, g4⟩ := WG.look (List.mem_of_getElem? hn)
      have r := d.gn n (List.mem_of_getElem? hn)
      have hdg : ∀ G2, Same G' G2 → DGet G2 nd (.ref a0) (some (.ref a)) := fun G2 s => by
        have e := DGet.t (k := nkey n.1) (s _ _ g0) (s _ _ hpr)
        rw [g1] at e
        exact e
      dsimp only [gName]
      refine ⟨_, rfl, .inl ⟨rfl, _, SqL.of hD⟩, _, rfl, _, rfl, w, _, rfl, wx_n WG.w, _, rfl, nd, _, rfl, hdg _ (Same.refl _), a, _, _, .int n.2.1, rfl, rfl, .of g2, atI_nat (j := 0) rfl, _, rfl, w, _, rfl, wx_n WG.w, _, rfl, nd, _, rfl, hdg _ (Same.refl _), a, _, _, .ref c, rfl, rfl, .of g2, atI_nat (j := 1) rfl, c, l.map fun (j : Nat) => (j : Int), rfl, .of (by rw [g3]; unfold nN; rw [List.map_map]; rfl), fun ns' sp2 perm rise nsp2 => ?_⟩
      have e2 : ns' = n.2.2.map fun (j : Nat) => (j : Int) := by
        refine rise_uniq rise ?_ (perm.trans (g4.map _))
        rw [List.pairwise_map]
        exact r.pw.imp fun h => by omega
      have e3 : ns'.map V.int = nN n.2.2 := by rw [e2, List.map_map]; rfl
      rw [e3]
      have u1 := same_upd (o := HO.lst (nN n.2.2)) nsp2
      refine .inl ⟨sp2, _, rfl, .of upd_same, fun tn ntn => ⟨by show 3 ≤ sizeLine; decide, fun p np => ?_⟩⟩
      have u2 := same_upd (o := HO.tup (nN n.2.2)) ntn
      have u3 := same_upd (o := HO.tup [.ref a0, .int n.2.1, .ref tn]) np
      have u := (u1.trans u2).trans u3
      have hDu := u _ _ hD
      have hnew : NdAt (upd (upd (upd G' sp2 (.lst (nN n.2.2))) tn (.tup (nN n.2.2))) p (.tup [.ref a0, .int n.2.1, .ref tn])) (.ref p) n := ⟨p, a0, tn, rfl, upd_same, u _ _ hpr, u3 _ _ upd_same⟩
      generalize upd (upd (upd G' sp2 (.lst (nN n.2.2))) tn (.tup (nN n.2.2))) p (.tup [.ref a0, .int n.2.1, .ref tn]) = G3 at *
      have tk3 : TK G3 (upd G3 D (.lst (us ++ [.ref p]))) := .upd hDu (fun _ e => by cases e)
      have hul : us.length ≤ 1152 := by
        have := Paired.len hp
        rw [List.length_take] at this
        omega
      refine ⟨D, us, .ref p, rfl, rfl, hDu, Nat.lt_of_le_of_lt hul (by decide), _, us ++ [.ref p], rfl, (b1.trans (.same u)).trans (.upd (by simp)), same_put (sG.trans u) nD, upd_same, ?_⟩
      rw [take_snoc hn]
      exact Paired.snoc (Paired.mapP hp fun _ _ r => (r.tk (.same u)).tk tk3) (hnew.tk tk3)
    · rintro σ G ⟨y2, us, rfl, b1, sG, hD, hp⟩
      rw [hyl, List.take_length] at hp
      have WG := W.same sG
      obtain ⟨vs, l1, l2⟩ := WG.lv
      refine ⟨_, rfl, w, _, rfl, wx_h WG.w, _, rfl, w, _, rfl, wx_l WG.w, lv, vs, rfl, .of l1, fun la o ho nla => ⟨_, rfl, .inl ⟨D, us, rfl, .of (same_upd nla _ _ hD), fun na nna => ⟨by show 3 ≤ sizeLine; decide, fun p np => ?_⟩⟩⟩⟩
      have u1 := same_upd (o := HO.frz o (.tup vs)) nla
      have u2 := same_upd (o := HO.tup us) nna
      have u3 := same_upd (o := HO.lst [.int (h : Nat), .ref la, .ref na]) np
      have u := (u1.trans u2).trans u3
      refine q _ p (sG.trans u) ((sG.trans (u1.trans u2)).free np) ⟨la, na, upd_same, ⟨vs, ⟨o, ho, u3 _ _ (u2 _ _ upd_same)⟩, Paired.mapP l2 fun _ _ r => r.tk (.same u)⟩, ⟨us, u3 _ _ upd_same, Paired.mapP hp fun _ _ r => r.tk (.same u)⟩⟩
end
end L2.My
end
section
set_option Elab.async false
set_option linter.all false
set_option maxRecDepth 100000
set_option maxHeartbeats 4000000
/-! _law_added. -/
namespace L2.My
open PySem PySem.Spec PyProof.Rows PySem.W
abbrev sAdd : Stmt := top 43
theorem path_mem {h j : Nat} {p : Nat × Nat} : p ∈ pathL h j ↔ 1 ≤ p.1 ∧ p.1 ≤ h ∧ j / 2 ^ p.1 = p.2 := by
  unfold pathL
  rw [List.mem_map]
  constructor
  · rintro ⟨k, hk, rfl⟩
    rw [List.mem_range] at hk
    exact ⟨Nat.le_add_left 1 k, hk, rfl⟩
  · rintro ⟨h1, h2, h3⟩
    refine ⟨p.1 - 1, List.mem_range.mpr (by omega), ?_⟩
    have e : p.1 - 1 + 1 = p.1 := by omega
    show (p.1 - 1 + 1, j / 2 ^ (p.1 - 1 + 1)) = p
    rw [e, h3]
theorem path_nodup (h j : Nat) : (pathL h j).Nodup := by
  unfold pathL
  exact List.pairwise_map.mpr (List.pairwise_lt_range.imp fun {a b} hab e => by
    have : a + 1 = b + 1 := congrArg Prod.fst e
    omega)
theorem path_len (h j : Nat) : (pathL h j).length = h := by unfold pathL; rw [List.length_map, List.length_range]
/-- the entries at some keys have one more aside -/
def addM (j : Nat) (ks : List (Nat × Nat)) (ms : List Me) : List Me := ms.map fun m => if m.1.1 ∈ ks then (addN j m.1, m.2) else m
theorem addM_snd (j : Nat) (ks : List (Nat × Nat)) (ms : List Me) : (addM j ks ms).map (·.2) = ms.map (·.2) := by
  unfold addM
  rw [List.map_map]
  exact List.map_congr_left fun m _ => by show (if m.1.1 ∈ ks then (addN j m.1, m.2) else m).2 = m.2; split <;> rfl
theorem addM_key (j : Nat) (ks : List (Nat × Nat)) (ms : List Me) : (addM j ks ms).map (·.1.1) = ms.map (·.1.1) := by
  unfold addM
  rw [List.map_map]
  exact List.map_congr_left fun m _ => by show (if m.1.1 ∈ ks then (addN j m.1, m.2) else m).1.1 = m.1.1; split <;> simp [addN_key]
theorem addM_all {h j : Nat} {ls : List Lf} {ns : List Nd} {ms : List Me} (g : ∀ n ∈ ns, RowOk h ls n) (hm : ∀ n, n ∈ ms.map (·.1) ↔ n ∈ ns) : (addM j (pathL h j) ms).map (·.1) = (ms.map (·.1)).map (addN j) := by
  unfold addM
  rw [List.map_map, List.map_map]
  refine List.map_congr_left fun m hmm => ?_
  show (if m.1.1 ∈ pathL h j then (addN j m.1, m.2) else m).1 = addN j m.1
  have r := g m.1 ((hm m.1).mp (List.mem_map_of_mem hmm))
  split
  · rfl
  · rename_i hn
    unfold addN
    rw [if_neg (fun e => hn (path_mem.mpr ⟨r.l1, r.lh, e⟩))]
theorem nN_ne {l : List Nat} {i : Int} {c : Addr} : nN l ≠ [V.int i, V.ref c] := by
  intro e
  unfold nN at e
  match l, e with
  | [], e => simp at e
  | [a], e => simp at e
  | [a, b], e => simp at e
  | a :: b :: d :: r, e => simp at e
theorem paired_mapR {α β γ : Type} {R : α → γ → Prop} {f : β → γ} {xs : List α} {ys : List β} (h : Paired (fun x y => R x (f y)) xs ys) : Paired R xs (ys.map f) := by
  induction h with
  | nil => exact .nil
  | cons r _ ih => exact .cons r ih
theorem pw_inj {ms : List Me} (p : ms.Pairwise fun a b => a.2 ≠ b.2) {x y : Me} (hx : x ∈ ms) (hy : y ∈ ms) (e : x.2 = y.2) : x = y := by
  induction ms with
  | nil => cases hx
  | cons z r ih =>
    obtain ⟨p1, p2⟩ := List.pairwise_cons.mp p
    rcases List.mem_cons.mp hx with e1 | hx'
    · rcases List.mem_cons.mp hy with e2 | hy'
      · exact e1.trans e2.symm
      · exact absurd (by rw [← e1]; exact e) (p1 y hy')
    · rcases List.mem_cons.mp hy with e2 | hy'
      · exact absurd (by rw [← e2]; exact e.symm) (p1 x hx')
      · exact ih p2 hx' hy'
/-- one list of those aside grows -/
theorem ent_add {H : Hp} {kvs : List (List Key × V)} {ms : List Me} {j : Nat} {k : Nat × Nat} {m : Me} {l : List Nat} (hp : Paired (EntAt H) kvs ms) (nk : (ms.map (·.1.1)).Nodup) (nc : (ms.map (·.2)).Nodup) (hm : m ∈ ms) (ek : m.1.1 = k) (hj : j / 2 ^ k.1 = k.2) (hl : H m.2 = some (.lst (nN l))) (pl : l.Perm m.1.2.2) :
    Paired (EntAt (upd H m.2 (.lst (nN l ++ [.int (j : Nat)])))) kvs (addM j [k] ms) := by
  unfold addM
  refine paired_mapR (paired_impM hp fun kv x hx r => ?_)
  obtain ⟨r1, a, l', r2, r3, r4, r5⟩ := r
  have na : a ≠ m.2 := fun e => by rw [e, hl] at r3; exact nN_ne (HO.lst.inj (Option.some.inj r3))
  by_cases hx1 : x.1.1 = k
  · have ex : x = m := by
      have e1 := fndM_of nk hx
      have e2 := fndM_of nk hm
      rw [hx1, ← ek, e2] at e1
      exact (Option.some.inj e1).symm
    subst ex
    rw [if_pos (by rw [hx1]; exact List.mem_singleton.mpr rfl)]
    have ea : addN j x.1 = (x.1.1, x.1.2.1, srtN (x.1.2.2 ++ [j])) := by unfold addN; rw [if_pos (by rw [hx1]; exact hj)]
    refine ⟨by rw [ea]; exact r1, a, l ++ [j], r2, by rw [upd_ne na, ea]; exact r3, ?_, ?_⟩
    · show upd H x.2 _ x.2 = _
      rw [upd_same]
      unfold nN
      rw [List.map_append]
      rfl
    · rw [ea]
      exact (pl.append_right [j]).trans (srtN_perm _).symm
  · rw [if_neg (by rw [List.mem_singleton]; exact hx1)]
    have nx : x.2 ≠ m.2 := fun e => by
      have : x = m := by
        refine Classical.byContradiction fun ne => ?_
        have := (List.pairwise_map.mp nc)
        exact ne (pw_inj this hx hm e)
      rw [this] at hx1
      exact hx1 ek
    exact ⟨r1, a, l', r2, by rw [upd_ne na]; exact r3, by rw [upd_ne nx]; exact r4, r5⟩
theorem addM_snoc {j : Nat} {ks : List (Nat × Nat)} {k : Nat × Nat} {ms : List Me} (hk : k ∉ ks) : addM j (ks ++ [k]) ms = addM j [k] (addM j ks ms) := by
  unfold addM
  rw [List.map_map]
  refine List.map_congr_left fun m _ => ?_
  show (if m.1.1 ∈ ks ++ [k] then (addN j m.1, m.2) else m) = (if (if m.1.1 ∈ ks then (addN j m.1, m.2) else m).1.1 ∈ [k] then (addN j (if m.1.1 ∈ ks then (addN j m.1, m.2) else m).1, (if m.1.1 ∈ ks then (addN j m.1, m.2) else m).2) else (if m.1.1 ∈ ks then (addN j m.1, m.2) else m))
  by_cases h1 : m.1.1 ∈ ks
  · have h2 : m.1.1 ≠ k := fun e => hk (by rw [← e]; exact h1)
    rw [if_pos (List.mem_append_left _ h1), if_pos h1, if_neg (by show (addN j m.1).1 ∉ [k]; rw [addN_key, List.mem_singleton]; exact h2)]
  · rw [if_neg h1]
    by_cases h2 : m.1.1 = k
    · rw [if_pos (List.mem_append_right _ (List.mem_singleton.mpr h2)), if_pos (List.mem_singleton.mpr h2)]
    · rw [if_neg (by rw [List.mem_append, List.mem_singleton]; exact fun z => z.elim h1 h2), if_neg (by rw [List.mem_singleton]; exact h2)]
theorem addM_nil (j : Nat) (ms : List Me) : addM j [] ms = ms := by
  unfold addM
  exact (List.map_congr_left fun m _ => by show (if m.1.1 ∈ [] then (addN j m.1, m.2) else m) = m; rw [if_neg (by simp)]).trans (List.map_id' ms)
theorem addM_none {j : Nat} {k : Nat × Nat} {ms : List Me} (h : fndM ms k = none) : addM j [k] ms = ms := by
  unfold addM
  refine (List.map_congr_left (g := id) fun m hm => ?_).trans (List.map_id ms)
  show (if m.1.1 ∈ [k] then (addN j m.1, m.2) else m) = m
  rw [if_neg]
  rw [List.mem_singleton]
  intro e
  exact fndM_none.mp h (List.mem_map.mpr ⟨m, hm, e⟩)
theorem addM_len {j : Nat} {ks : List (Nat × Nat)} {ms : List Me} {b : Nat} (h : ∀ m ∈ ms, m.1.2.2.length ≤ b) : ∀ m ∈ addM j ks ms, m.1.2.2.length ≤ b + 1 := by
  intro m hm
  unfold addM at hm
  obtain ⟨x, hx, rfl⟩ := List.mem_map.mp hm
  have := h x hx
  split
  · show (addN j x.1).2.2.length ≤ b + 1
    unfold addN
    split
    · show (srtN (x.1.2.2 ++ [j])).length ≤ b + 1
      rw [(srtN_perm _).length_eq, List.length_append, List.length_singleton]
      omega
    · omega
  · omega
theorem own_add (w lv nd : Addr) (j : Nat) (ks : List (Nat × Nat)) (ms : List Me) : own w lv nd (addM j ks ms) = own w lv nd ms := by unfold own; rw [addM_snd]
theorem lf_nN {H : Hp} {vs : List V} {ls : List Lf} {l : List Nat} (h : Paired (LfAt H) vs ls) (hn : 1 ≤ ls.length) : vs ≠ nN l := by
  intro e
  cases h with
  | nil => simp at hn
  | @cons v l0 vs ls r _ =>
    cases l with
    | nil => cases e
    | cons x l =>
      have e1 : v = .int (x : Nat) := (List.cons.inj e).1
      subst e1
      cases l0 with
      | none => cases r
      | some p => obtain ⟨a, e2, _⟩ := r; cases e2
theorem Wd.tk {H H' : Hp} {w lv nd : Addr} {ms : List Me} {h : Nat} {ls : List Lf} {ns : List Nd} (x : Wd H w lv nd ms h ls ns) (s : BL (own w lv nd ms) H H') : TK H H' := by
  have key : ∀ p ∈ own w lv nd ms, (∃ kvs, H p = some (.dK kvs)) ∨ (∃ vs, H p = some (.lst vs)) ∨ ∃ kvs, H p = some (.dT kvs) := fun p hp => by
    unfold own at hp
    rcases List.mem_cons.mp hp with rfl | hp
    · exact .inl ⟨_, x.w⟩
    rcases List.mem_cons.mp hp with rfl | hp
    · obtain ⟨vs, e1, _⟩ := x.lv
      exact .inr (.inl ⟨vs, e1⟩)
    rcases List.mem_cons.mp hp with rfl | hp
    · obtain ⟨kvs, e1, _⟩ := x.nd
      exact .inr (.inr ⟨kvs, e1⟩)
    · obtain ⟨m, hm, rfl⟩ := List.mem_map.mp hp
      obtain ⟨l, e, _⟩ := x.ent hm
      exact .inr (.inl ⟨_, e⟩)
  exact .bl s (fun p hp xs e => by rcases key p hp with ⟨_, z⟩ | ⟨_, z⟩ | ⟨_, z⟩ <;> rw [z] at e <;> cases e) (fun p hp o u e => by rcases key p hp with ⟨_, z⟩ | ⟨_, z⟩ | ⟨_, z⟩ <;> rw [z] at e <;> cases e)
/-- one of those lists grows -/
theorem Wd.addC {H : Hp} {w lv nd : Addr} {ms : List Me} {h : Nat} {ls : List Lf} {ns : List Nd} {j : Nat} {m : Me} {l : List Nat} (x : Wd H w lv nd ms h ls ns) (hls : 1 ≤ ls.length) (hm : m ∈ ms) (hj : j / 2 ^ m.1.1.1 = m.1.1.2) (hl : H m.2 = some (.lst (nN l))) (pl : l.Perm m.1.2.2) :
    Wd (upd H m.2 (.lst (nN l ++ [.int (j : Nat)]))) w lv nd (addM j [m.1.1] ms) h ls ((addM j [m.1.1] ms).map (·.1)) := by
  obtain ⟨vs, e1, e2⟩ := x.lv
  obtain ⟨kvs, f1, f2⟩ := x.nd
  have n1 : w ≠ m.2 := fun e => by have := x.w; rw [e, hl] at this; cases this
  have n2 : lv ≠ m.2 := fun e => by rw [e, hl] at e1; exact lf_nN e2 hls (HO.lst.inj (Option.some.inj e1)).symm
  have n3 : nd ≠ m.2 := fun e => by rw [e, hl] at f1; cases f1
  have tk : TK H (upd H m.2 (.lst (nN l ++ [.int (j : Nat)]))) := .upd hl (fun _ e => by cases e)
  exact ⟨by rw [upd_ne n1]; exact x.w, ⟨vs, by rw [upd_ne n2]; exact e1, Paired.mapP e2 fun _ _ r => r.tk tk⟩, ⟨kvs, by rw [upd_ne n3]; exact f1, ent_add f2 x.nk x.nc hm rfl hj hl pl⟩, by rw [addM_key]; exact x.nk, by rw [addM_snd]; exact x.nc, fun n => Iff.rfl⟩
theorem wp_h {H : Hp} {w lv nd : Addr} {h : Nat} {i : Int} (e : H w = some (.dK (worldL h lv nd))) : DPut H w (.str "height") (.int i) (upd H w (.dK [(.inr "height", .int i), (.inr "leaves", .ref lv), (.inr "nodes", .ref nd)])) := .inl ⟨_, .inr "height", e, rfl, by show 3 < sizeLine; decide, rfl⟩
theorem Wd.putH {H : Hp} {w lv nd : Addr} {ms : List Me} {h : Nat} {ls : List Lf} {ns : List Nd} (x : Wd H w lv nd ms h ls ns) (h2 : Nat) : Wd (upd H w (.dK (worldL h2 lv nd))) w lv nd ms h2 ls ns := by
  obtain ⟨vs, e1, e2⟩ := x.lv
  obtain ⟨kvs, f1, f2⟩ := x.nd
  have n2 : lv ≠ w := fun e => by rw [e, x.w] at e1; cases e1
  have n3 : nd ≠ w := fun e => by rw [e, x.w] at f1; cases f1
  have tk : TK H (upd H w (.dK (worldL h2 lv nd))) := .upd x.w (fun _ e => by cases e)
  exact ⟨upd_same, ⟨vs, by rw [upd_ne n2]; exact e1, Paired.mapP e2 fun _ _ r => r.tk tk⟩, ⟨kvs, by rw [upd_ne n3]; exact f1, Paired.mapP f2 fun _ _ r => r.updK x.w⟩, x.nk, x.nc, x.mem⟩
theorem Wd.putL {H : Hp} {w lv nd : Addr} {ms : List Me} {h : Nat} {ls ls2 : List Lf} {ns : List Nd} {vs : List V} (x : Wd H w lv nd ms h ls ns) (hls : 1 ≤ ls.length) (hp : Paired (LfAt H) vs ls2) : Wd (upd H lv (.lst vs)) w lv nd ms h ls2 ns := by
  obtain ⟨vs1, e1, e2⟩ := x.lv
  obtain ⟨kvs, f1, f2⟩ := x.nd
  have n2 : w ≠ lv := fun e => by rw [← e, x.w] at e1; cases e1
  have n3 : nd ≠ lv := fun e => by rw [← e, f1] at e1; cases e1
  have tk : TK H (upd H lv (.lst vs)) := .upd e1 (fun _ e => by cases e)
  refine ⟨by rw [upd_ne n2]; exact x.w, ⟨vs, upd_same, Paired.mapP hp fun _ _ r => r.tk tk⟩, ⟨kvs, by rw [upd_ne n3]; exact f1, Paired.mapP f2 fun kv m r => ?_⟩, x.nk, x.nc, x.mem⟩
  obtain ⟨r1, a, l, r2, r3, r4, r5⟩ := r
  have na : a ≠ lv := fun e => by
    rw [e, e1] at r3
    have e3 : vs1 = [V.int m.1.2.1, V.ref m.2] := HO.lst.inj (Option.some.inj r3)
    subst e3
    cases e2 with
    | @cons v l0 _ _ r _ =>
      cases l0 with
      | none => cases r
      | some p => obtain ⟨a, e2, _⟩ := r; cases e2
  have nc : m.2 ≠ lv := fun e => by rw [e, e1] at r4; exact lf_nN e2 hls (HO.lst.inj (Option.some.inj r4))
  exact ⟨r1, a, l, r2, by rw [upd_ne na]; exact r3, by rw [upd_ne nc]; exact r4, r5⟩
theorem map_non (n : Nat) : (List.range n).map (fun _ => V.non) = List.replicate n V.non := by
  rw [List.map_const']
  simp
def spAdd : Sp := fun vs H Q _ => ∃ (w lv nd : Addr) (ms : List Me) (h : Nat) (ls : List Lf) (ns : List Nd) (z : Str) (i : Int), vs = [.ref w, .str z, .int i] ∧ Wd H w lv nd ms h ls ns ∧ DrT h ls ns ∧ ¬ (h = 8 ∧ none ∉ ls) ∧
  ∀ H' ms', BL (own w lv nd ms) H H' → own w lv nd ms' = own w lv nd ms → Wd H' w lv nd ms' (grown h ls).1 ((grown h ls).2.set (blankAt (grown h ls).2) (some (z, i))) (ns.map (addN (blankAt (grown h ls).2))) → Q (.int (blankAt (grown h ls).2 : Nat)) H'
section
variable {P : Program} {w : World} {K : PySem.W.Frag} {mg : Str → Option Value} {base : Heap}
abbrev nAd : List Str := ["w", "name", "lock", "leaves", "leaf", "node"]
theorem scAd : FnScope nAd ["w", "name", "lock"] (defScope sAdd) := ⟨rfl, rfl, rfl, by decide +kernel, rfl, by decide +kernel, by decide +kernel⟩
theorem ok_add {f : Addr} {fd : FuncData} {k : Nat} (F : Fun K "_law_added" "_law_added" sAdd f fd) (T : Tx mg) (cA : Cal P w K mg base (k + 1) "_law_above" ["w", "leaf"] spAbv) : FnOk P w K mg base CX0 (k + 2) f fd ["w", "name", "lock"] spAdd := by
  refine F.ok scAd (fun vs H Q E h => ?_) (fun cdv A outer s H vs Q E hr h => ?_)
  · obtain ⟨w, lv, nd, ms, h, ls, ns, z, i, rfl, _⟩ := h
    rfl
  · obtain ⟨w, lv, nd, ms, h, ls, ns, z, i, rfl, W, d, hf, q⟩ := h
    refine ⟨_, (pss_cons (ps_set (i := 3) scAd.nd rfl (Or.inl rfl) (pe_dget (u1 hr) (pv 0) pe_str (fun _ _ => rfl))) (pss_cons (ps_if (pt_cmpR (op_notInD (u65 hr)) pe_non (pv 3) rfl) (pss_cons (ps_daug (u1 hr) (pv 0) pe_str pe_int in_add (fun _ _ _ => rfl)) (pss_one (ps_expr (pe_bm PySem.F.plainAttrs_list PySem.F.slot_list_extend PySem.F.type_list_extend mt_extend (pv 3) (pa_cons (pe_lc (own := [("leaf", 4)]) (g := gName 4) (te := tC .non) rfl scAd.nd (pi_list (pe_callTy call_list_of (by rfl) T.list_ (by decide +kernel) (pa_cons (pv 3) pa_nil))) (blkOk_by (N := nAd) (sc := defScope sAdd) (by decide +kernel)) (fun _ _ _ _ _ => pg_name (i := 4) scAd.nd rfl (Or.inl rfl)) (fun _ _ _ _ _ => pts_nil) (fun _ _ _ _ _ => pe_non)) pa_nil))))) pss_nil) (pss_cons (ps_set (i := 4) scAd.nd rfl (Or.inl rfl) (pe_bm PySem.F.plainAttrs_list PySem.F.slot_list_index PySem.F.type_list_index (mt_indexD (u65 hr)) (pv 3) (pa_cons pe_non pa_nil))) (pss_cons (ps_asg (pe_tup (pa_cons (pv 1) (pa_cons (pv 2) pa_nil))) (pg_sub (pv 3) (pv 4) set_list)) (pss_cons (ps_for PassesOwn.never rfl (pi_list (pe_c cA hr (by omega) (by rfl) (pa_cons (pv 0) (pa_cons (pv 4) pa_nil)))) (pg_name (i := 5) scAd.nd rfl (Or.inl rfl)) (pss_one (ps_if (pt_cmp (pc_din (u1 hr) (pv 5) (pe_dget (u1 hr) (pv 0) pe_str (fun _ _ => rfl)))) (pss_one (ps_expr (pe_bm PySem.F.plainAttrs_list PySem.F.slot_list_append PySem.F.type_list_append mt_append (pe_ix ix_list (pe_dget (u1 hr) (pe_dget (u1 hr) (pv 0) pe_str (fun _ _ => rfl)) (pv 5) (fun _ _ => rfl)) pe_int (fun _ _ => rfl)) (pa_cons (pv 4) pa_nil)))) pss_nil))) (pss_one (ps_ret (pv 4)))))))), ?_⟩
    have h8 := d.h8
    have hll := d.ll
    have l256 := d.l256
    have hl1 : 1 ≤ ls.length := by rw [hll]; exact Nat.one_le_two_pow
    refine ⟨_, rfl, w, _, rfl, wx_l W.w, ?_⟩
    dsimp only [gName]
    refine seq_use (t := tIfS _ _ _) (fun σ G => σ = [some (.ref w), some (.str z), some (.int i), some (.ref lv), none, none] ∧ BL (own w lv nd ms) H G ∧ Wd G w lv nd ms (grown h ls).1 (grown h ls).2 ns) ?_ (fun hrest => ?_)
    · rintro σ G ⟨rfl, bG, WG⟩
      have d2 := grown_ok d hf
      have hmem := grown_mem h (ls := ls) hl1
      have hbl := blank_at hmem
      have hlo0 : ∀ m, m < blankAt (grown h ls).2 → ∃ p, (grown h ls).2[m]? = some (some p) := fun m hm => blank_lo hm
      generalize blankAt (grown h ls).2 = j at *
      generalize (grown h ls).1 = h2 at *
      generalize (grown h ls).2 = ls2 at *
      have l2256 := d2.l256
      have hl2 : 1 ≤ ls2.length := by rw [d2.ll]; exact Nat.one_le_two_pow
      obtain ⟨vs, e1, e2⟩ := WG.lv
      have hvs := Paired.len e2
      have hjl : j < ls2.length := (List.getElem?_eq_some_iff.mp hbl).1
      have nice : Nice (.list (ls2.map dLf)) := .lst (.map fun l hl => nice_lf (d2.gl l hl))
      have dep : PyData.depth (.list (ls2.map dLf)) ≤ 40 := by
        have := dep_lvs ls2
        unfold dLvs at this
        simp only [PyData.depth] at this ⊢
        omega
      refine ⟨_, rfl, .inl ⟨rfl, _, SqL.of e1⟩, lv, .non, .none, ls2.map dLf, j, .none, rfl, rfl, .lst (.of e1) (dp_map e2 fun _ _ r => dpLf r), .non, shaped_of nice dep, shaped_of .non (by decide), by rw [List.getElem?_map, hbl]; rfl, by simp [PyData.eqv], fun m z' hm hz' => ?_, ?_⟩
      · obtain ⟨p, hp⟩ := hlo0 m hm
        rw [List.getElem?_map, hp] at hz'
        rw [← Option.some.inj hz']
        show PyData.eqv (.tuple [.str p.1, .int p.2]) .none = false
        simp [PyData.eqv]
      dsimp only [gName]
      refine ⟨_, rfl, _, rfl, by show 2 ≤ sizeLine; decide, fun p np => ⟨_, rfl, _, rfl, lv, vs, (j : Int), j, rfl, rfl, same_upd np _ _ e1, ixN_nat (by omega), ?_⟩⟩
      have u1 := same_upd (o := HO.tup [.str z, .int i]) np
      have W1 := WG.same u1
      have hp1 : LfAt (upd G p (.tup [.str z, .int i])) (.ref p) (some (z, i)) := ⟨p, rfl, upd_same⟩
      have b1 := bG.trans (.same u1)
      have e21 := Paired.mapP e2 fun _ _ r => r.tk (.same u1)
      generalize upd G p (.tup [.str z, .int i]) = G1 at *
      have W2 := W1.putL (vs := vs.set j (.ref p)) hl2 (paired_set e21 hp1)
      have b2 : BL (own w lv nd ms) H (upd G1 lv (.lst (vs.set j (.ref p)))) := b1.trans (.upd (by simp [own]))
      generalize upd G1 lv (.lst (vs.set j (.ref p))) = G2 at *
      have hls3 : 1 ≤ (ls2.set j (some (z, i))).length := by rw [List.length_set]; exact hl2
      refine ⟨_, rfl, _, rfl, w, lv, nd, h2, j, rfl, W2.w, d2.h8, fun G3 a us s3 na ha hpa => ?_⟩
      have W3 := W2.same s3
      have nao : a ∉ own w lv nd ms := fun hm => W2.there hm na
      refine ⟨a, rfl, ⟨_, SqL.of ha⟩, ?_⟩
      have hul : us.length = h2 := by rw [Paired.len hpa, path_len]
      refine for_it (walk_list (xs := us)) (fun q σ G => ∃ (y5 : Option V), σ = [some (.ref w), some (.str z), some (.int i), some (.ref lv), some (.int (j : Nat)), y5] ∧ BL (own w lv nd ms) G3 G ∧ Wd G w lv nd (addM j ((pathL h2 j).take q) ms) h2 (ls2.set j (some (z, i))) ((addM j ((pathL h2 j).take q) ms).map (·.1))) ⟨_, rfl, .refl, ?_⟩ (fun q σ G _ hG => by obtain ⟨_, _, b, _⟩ := hG; exact SqL.of (b _ _ nao ha)) ?_ ?_
      · rw [List.take_zero, addM_nil]
        exact ⟨W3.w, W3.lv, W3.nd, W3.nk, W3.nc, fun n => Iff.rfl⟩
      · rintro q y σ G4 G4' hi ⟨y5, rfl, b4, W4⟩ ⟨rfl, hy⟩
        have tk4 := W3.tk b4
        obtain ⟨kk, hkk, a0, rfl, hpr⟩ := Paired.at' hpa hy
        have hpr4 := tk4.1 _ _ hpr
        obtain ⟨kvs, f1, f2⟩ := W4.nd
        have htk := take_snoc hkk
        have hknot : kk ∉ (pathL h2 j).take q := fun hk => by
          have n2 : ((pathL h2 j).take (q + 1)).Nodup := (path_nodup h2 j).sublist (List.take_sublist _ _)
          rw [htk, List.nodup_append] at n2
          exact n2.2.2 _ hk _ (List.mem_singleton.mpr rfl) rfl
        have hpath := (path_mem.mp (List.mem_of_getElem? hkk)).2.2
        obtain ⟨v1, v2⟩ := ent_val f2 kk
        dsimp only [gName]
        refine ⟨_, rfl, _, rfl, w, _, rfl, wx_n W4.w, nd, _, rfl, DGet.t (k := nkey kk) f1 hpr4, _, rfl, ?_⟩
        cases hfm : fndM (addM j ((pathL h2 j).take q) ms) kk with
        | none =>
          rw [v2 hfm]
          refine iteF ⟨_, rfl, b4, ?_⟩
          rw [htk, addM_snoc hknot, addM_none hfm]
          exact W4
        | some m =>
          obtain ⟨hmm, hmk⟩ := fndM_some hfm
          obtain ⟨ae, l, g1, g2, g3, g4⟩ := v1 m hfm
          have hdg : DGet G4' nd (.ref a0) (some (.ref ae)) := by
            have e := DGet.t (k := nkey kk) f1 hpr4
            rw [g1] at e
            exact e
          rw [g1]
          have hll2 : l.length ≤ 257 := by
            rw [g4.length_eq]
            exact addM_len (b := 256) (fun x hx => (d.gn x.1 ((W.mem x.1).mp (List.mem_map_of_mem hx))).le) m hmm
          refine iteT ⟨_, rfl, w, _, rfl, wx_n W4.w, _, rfl, nd, _, rfl, hdg, ae, _, _, .ref m.2, rfl, rfl, .of g2, atI_nat (j := 1) rfl, .inl ⟨rfl, _, SqL.of g3⟩, _, rfl, m.2, nN l, .int (j : Nat), rfl, rfl, g3, Nat.lt_of_le_of_lt (show (nN l).length ≤ 257 by rw [nN_len]; exact hll2) (by decide), ?_⟩
          have hmo : m.2 ∈ own w lv nd ms := by
            rw [← own_add w lv nd j ((pathL h2 j).take q) ms]
            simp only [own, List.mem_cons, List.mem_map]
            exact .inr (.inr (.inr ⟨m, hmm, rfl⟩))
          refine ⟨_, rfl, b4.trans (.upd hmo), ?_⟩
          rw [htk, addM_snoc hknot, ← hmk]
          exact W4.addC hls3 hmm (by rw [hmk]; exact hpath) g3 g4
      · rintro σ G4 ⟨y5, rfl, b4, W4⟩
        rw [hul, List.take_of_length_le (by rw [path_len]; exact Nat.le_refl _)] at W4
        refine ⟨_, rfl, q G4 _ ((b2.trans (.same s3)).trans b4) (own_add w lv nd j _ ms) ⟨W4.w, W4.lv, W4.nd, W4.nk, W4.nc, fun n => ?_⟩⟩
        rw [addM_all d2.gn W.mem]
        constructor
        · intro hn
          obtain ⟨x, hx, rfl⟩ := List.mem_map.mp hn
          exact List.mem_map_of_mem ((W.mem x).mp hx)
        · intro hn
          obtain ⟨x, hx, rfl⟩ := List.mem_map.mp hn
          exact List.mem_map_of_mem ((W.mem x).mpr hx)
    · obtain ⟨vs, e1, e2⟩ := W.lv
      have hvs := Paired.len e2
      have nice : Nice (.list (ls.map dLf)) := .lst (.map fun l hl => nice_lf (d.gl l hl))
      have dep : PyData.depth (.list (ls.map dLf)) ≤ 40 := by
        have := dep_lvs ls
        unfold dLvs at this
        simp only [PyData.depth] at this ⊢
        omega
      refine ⟨_, rfl, .none, ls.map dLf, .non, .lst (.of e1) (dp_map e2 fun _ _ r => dpLf r), shaped_of .non (by decide), shaped_of nice dep, _, rfl, ?_⟩
      rw [any_none]
      by_cases hno : none ∈ ls
      · rw [decide_eq_true hno]
        have eg : grown h ls = (h, ls) := by unfold grown; rw [if_pos hno]
        exact iteF (hrest _ _ ⟨rfl, .refl, by rw [eg]; exact W⟩)
      · rw [decide_eq_false hno]
        have eg : grown h ls = (h + 1, ls ++ List.replicate ls.length none) := by unfold grown; rw [if_neg hno]
        refine iteT ⟨_, rfl, w, _, rfl, wx_h W.w, _, _, rfl, rfl, _, wp_h W.w, ?_⟩
        have W1 := W.putH (h + 1)
        have b1 : BL (own w lv nd ms) H (upd H w (.dK (worldL (h + 1) lv nd))) := .upd (by simp [own])
        have n2 : lv ≠ w := fun e => by rw [e, W.w] at e1; cases e1
        have e11 : (upd H w (.dK (worldL (h + 1) lv nd))) lv = some (.lst vs) := by rw [upd_ne n2]; exact e1
        have e21 : Paired (LfAt (upd H w (.dK (worldL (h + 1) lv nd)))) vs ls := Paired.mapP e2 fun _ _ r => r.tk (.upd W.w (fun _ e => by cases e))
        dsimp only
        have ew : upd H w (HO.dK [(.inr "height", .int (((h : Nat) : Int) + 1)), (.inr "leaves", .ref lv), (.inr "nodes", .ref nd)]) = upd H w (.dK (worldL (h + 1) lv nd)) := rfl
        rw [ew]
        generalize upd H w (.dK (worldL (h + 1) lv nd)) = H1 at *
        refine ⟨_, rfl, .inl ⟨rfl, _, SqL.of e11⟩, _, rfl, lv, vs, rfl, .inl (SqL.of e11), fun l nl => ⟨l, rfl, ⟨_, SqL.of upd_same⟩, fun D nD => ?_⟩⟩
        have u1 := same_upd (o := HO.lst vs) nl
        have hl1' : (upd H1 l (.lst vs)) l = some (.lst vs) := upd_same
        generalize upd H1 l (.lst vs) = H2 at *
        refine lcP (walk_list (xs := vs)) (fun _ => V.non) (Nat.lt_of_le_of_lt (show vs.length ≤ 256 by omega) (by decide)) nD (fun _ s => SqL.of (s _ _ hl1')) ?_ ?_
        · rintro i' y G3 G4 Q' hi sm ⟨rfl, hy⟩ hq
          exact ⟨rfl, hq _ (Same.refl _)⟩
        intro G s hD
        rw [map_non] at hD
        have s2 := u1.trans s
        have W2 := W1.same s2
        refine ⟨lv, D, vs, List.replicate vs.length .non, rfl, rfl, s2 _ _ e11, hD, Nat.le_trans (show vs.length + (List.replicate vs.length V.non).length ≤ 512 by rw [List.length_replicate]; omega) (by decide), hrest _ _ ⟨rfl, (b1.trans (.same s2)).trans (.upd (by simp [own])), ?_⟩⟩
        rw [eg]
        exact W2.putL hl1 (paired_app (Paired.mapP e21 fun _ _ r => r.tk (.same s2)) (by rw [hvs]; exact paired_repl _))
end
end L2.My
end
section
set_option Elab.async false
set_option linter.all false
set_option maxRecDepth 100000
set_option maxHeartbeats 4000000
/-! _law_gone, _law_new. -/
namespace L2.My
open PySem PySem.Spec PyProof.Rows PySem.W
abbrev sGon : Stmt := top 44
abbrev sNew : Stmt := top 45
theorem eqv_ky (p q : Nat × Nat) : PyData.eqv (dKy p) (dKy q) = decide (p = q) := by
  obtain ⟨a, b⟩ := p
  obtain ⟨c, d⟩ := q
  unfold dKy
  rw [PyData.eqv, PyData.eqvAll, PyData.eqvAll, PyData.eqvAll, eqv_int, eqv_int, Bool.and_true, ← Bool.decide_and]
  exact decide_eq_decide.mpr (by simp only [Prod.mk.injEq, Int.natCast_inj])
theorem any_keys (k : Nat × Nat) : ∀ l : List (Nat × Nat), ((l.map dKy).any fun z => PyData.eqv z (dKy k)) = decide (k ∈ l)
  | [] => rfl
  | x :: r => by
    rw [List.map_cons, List.any_cons, any_keys k r, eqv_ky, ← Bool.decide_or]
    refine decide_eq_decide.mpr ?_
    rw [List.mem_cons]
    exact or_congr_left eq_comm
theorem nice_ky {p : Nat × Nat} (h : p.1 ≤ 1000 ∧ p.2 ≤ 1000) : Nice (dKy p) := by
  have e : (1000 : Nat) ≤ 10 ^ 40 := by decide
  exact .tup (.cons (.int (by omega)) (.cons (.int (by omega)) .nil))
theorem dep_ky (p : Nat × Nat) : PyData.depth (dKy p) ≤ 4 := by
  simp only [dKy, PyData.depth, PyData.depthAll]; omega
theorem shaped_ky {p : Nat × Nat} (h : p.1 ≤ 1000 ∧ p.2 ≤ 1000) : SeqAt.shaped (dKy p) = true := shaped_of (nice_ky h) (Nat.le_trans (dep_ky p) (by decide))
theorem shaped_kys {l : List (Nat × Nat)} (h : ∀ p ∈ l, p.1 ≤ 1000 ∧ p.2 ≤ 1000) : SeqAt.shaped (.list (l.map dKy)) = true := shaped_of (.lst (.map fun p hp => nice_ky (h p hp))) (by
  have := depM (f := dKy) dep_ky l
  simp only [PyData.depth]
  omega)
theorem path_small {h j : Nat} (h8 : h ≤ 8) (hj : j < 256) : ∀ p ∈ pathL h j, p.1 ≤ 1000 ∧ p.2 ≤ 1000 := fun p hp => by
  obtain ⟨a, b, c⟩ := path_mem.mp hp
  have := Nat.div_le_self j (2 ^ p.1)
  omega
theorem off_path {h j : Nat} {ls : List Lf} {n : Nd} (r : RowOk h ls n) : decide (n.1 ∈ pathL h j) = !offN j n := by
  unfold offN
  rw [Bool.not_not]
  refine decide_eq_decide.mpr ?_
  rw [path_mem]
  exact ⟨fun h => h.2.2, fun h => ⟨r.l1, r.lh, h⟩⟩
theorem EntAt.updF {H : Hp} {kv : List Key × V} {m : Me} {D : Addr} {u o : HO} (h : EntAt H kv m) (hD : H D = some u) (hu : ∀ vs, u ≠ .lst vs) : EntAt (L2.upd H D o) kv m := by
  obtain ⟨h1, a, l, h2, h3, h4, h5⟩ := h
  exact ⟨h1, a, l, h2, by rw [upd_ne (fun e => by rw [e, hD] at h3; exact hu _ (Option.some.inj h3))]; exact h3, by rw [upd_ne (fun e => by rw [e, hD] at h4; exact hu _ (Option.some.inj h4))]; exact h4, h5⟩
theorem wp_n {H : Hp} {w lv nd nd2 : Addr} {h : Nat} (e : H w = some (.dK (worldL h lv nd))) : DPut H w (.str "nodes") (.ref nd2) (upd H w (.dK (worldL h lv nd2))) := .inl ⟨_, .inr "nodes", e, rfl, by show 3 < sizeLine; decide, rfl⟩
theorem rg_get {α : Type} (l : List α) : (List.range l.length).filterMap (fun i => l[i]?) = l := by
  induction l with
  | nil => rfl
  | cons x r ih =>
    rw [List.length_cons, List.range_succ_eq_map, List.filterMap_cons_some (f := fun i => (x :: r)[i]?) (a := 0) (b := x) rfl, List.filterMap_map]
    exact congrArg _ ih
def spGon : Sp := fun vs H Q _ => ∃ (w lv nd : Addr) (ms : List Me) (h : Nat) (ls : List Lf) (ns : List Nd) (j : Nat) (p : Str × Int), vs = [.ref w, .int (j : Nat)] ∧ Wd H w lv nd ms h ls ns ∧ DrT h ls ns ∧ ls[j]? = some (some p) ∧
  ∀ H' nd' ms', BL (own w lv nd ms) H H' → (∀ a ∈ own w lv nd' ms', a ∈ own w lv nd ms ∨ H a = none) → Wd H' w lv nd' ms' h (ls.set j none) (ns.filter (offN j)) → Q .non H'
theorem putM_snd {ms : List Me} {m : Me} (nk : (ms.map (·.1.1)).Nodup) (nc : (ms.map (·.2)).Nodup) (hm : m.2 ∉ ms.map (·.2)) : ((putM ms m).map (·.2)).Nodup := by
  unfold putM
  split
  · rw [List.map_map]
    refine List.pairwise_map.mpr (((List.pairwise_map.mp nk).and (List.pairwise_map.mp nc)).imp_of_mem fun {a b} ha hb h => ?_)
    show (if a.1.1 = m.1.1 then m else a).2 ≠ (if b.1.1 = m.1.1 then m else b).2
    by_cases h1 : a.1.1 = m.1.1
    · rw [if_pos h1, if_neg (fun h2 => h.1 (h1.trans h2.symm))]
      exact fun e => hm (by rw [e]; exact List.mem_map_of_mem hb)
    · rw [if_neg h1]
      by_cases h2 : b.1.1 = m.1.1
      · rw [if_pos h2]
        exact fun e => hm (by rw [← e]; exact List.mem_map_of_mem ha)
      · rw [if_neg h2]
        exact h.2
  · rw [List.map_append, List.nodup_append]
    exact ⟨nc, by simp, fun x hx y hy => by
      obtain rfl : y = m.2 := by simpa using hy
      rintro rfl
      exact hm hx⟩
theorem putM_len (ms : List Me) (m : Me) : (putM ms m).length ≤ ms.length + 1 := by
  unfold putM
  split
  · rw [List.length_map]; omega
  · rw [List.length_append]; exact Nat.le_refl _
theorem TR.tk {K : PySem.W.Frag} {H H' : Hp} {a : Addr} {xs : List V} (h : TR K H a xs) (t : TK H H') : TR K H' a xs := h.elim (fun h => .inl (t.1 _ _ h)) fun h => .inr (h.tk t)
def spNew : Sp := fun vs H Q _ => ∃ (w lv nd : Addr) (ms : List Me) (h : Nat) (ls : List Lf) (ns : List Nd) (j : Nat) (p : Str × Int) (lk : Addr) (ks : List Int), vs = [.ref w, .int (j : Nat), .ref lk] ∧ Wd H w lv nd ms h ls ns ∧ DrT h ls ns ∧ ls[j]? = some (some p) ∧
  (H lk = some (.tup (ks.map V.int)) ∨ TF H lk (ks.map V.int)) ∧ ks.length = h + 1 ∧
  ∀ H' ms', BL (own w lv nd ms) H H' → (∀ a ∈ own w lv nd ms', a ∈ own w lv nd ms ∨ H a = none) → Wd H' w lv nd ms' h (ls.set j (some (p.1, ks.getD 0 0))) (newN j ks h ns) → Q .non H'
section
variable {P : Program} {w : World} {K : PySem.W.Frag} {mg : Str → Option Value} {base : Heap}
abbrev nGo : List Str := ["w", "leaf", "leaves", "nodes", "above", "node", "one"]
theorem scGo : FnScope nGo ["w", "leaf"] (defScope sGon) := ⟨rfl, rfl, rfl, by decide +kernel, rfl, by decide +kernel, by decide +kernel⟩
theorem ok_gon {f : Addr} {fd : FuncData} {k : Nat} (F : Fun K "_law_gone" "_law_gone" sGon f fd) (T : Tx mg) (cA : Cal P w K mg base (k + 1) "_law_above" ["w", "leaf"] spAbv) : FnOk P w K mg base CX0 (k + 2) f fd ["w", "leaf"] spGon := by
  refine F.ok scGo (fun vs H Q E h => ?_) (fun cdv A outer s H vs Q E hr h => ?_)
  · obtain ⟨w, lv, nd, ms, h, ls, ns, j, p, rfl, _⟩ := h
    rfl
  · obtain ⟨w, lv, nd, ms, h, ls, ns, j, p, rfl, W, d, hj, q⟩ := h
    refine ⟨_, (pss_cons (ps_set (i := 2) scGo.nd rfl (Or.inl rfl) (pe_dget (u1 hr) (pv 0) pe_str (fun _ _ => rfl))) (pss_cons (ps_asg pe_non (pg_sub (pv 2) (pv 1) set_list)) (pss_cons (ps_set (i := 3) scGo.nd rfl (Or.inl rfl) pe_dnewT) (pss_cons (ps_set (i := 4) scGo.nd rfl (Or.inl rfl) (pe_c cA hr (by omega) (by rfl) (pa_cons (pv 0) (pa_cons (pv 1) pa_nil)))) (pss_cons (ps_lock (ps_for PassesOwn.never rfl (pi_keys (pe_dget (u1 hr) (pv 0) pe_str (fun _ _ => rfl))) (pg_name (i := 5) scGo.nd rfl (Or.inl rfl)) (pss_one (ps_if (pt_cmpR (op_notInD (u65 hr)) (pv 5) (pv 4) rfl) (pss_one (ps_dput (u1 hr) (pv 3) (pv 5) (pe_lst (pa_cons (pe_ix ix_list (pe_dget (u1 hr) (pe_dget (u1 hr) (pv 0) pe_str (fun _ _ => rfl)) (pv 5) (fun _ _ => rfl)) pe_int (fun _ _ => rfl)) (pa_cons (pe_lc (own := [("one", 6)]) (g := gName 6) (te := tVar 6) (tt := tTest (tOp rNe (tVar 6) (tVar 1))) rfl scGo.nd (pi_list (pe_ix ix_list (pe_dget (u1 hr) (pe_dget (u1 hr) (pv 0) pe_str (fun _ _ => rfl)) (pv 5) (fun _ _ => rfl)) pe_int (fun _ _ => rfl))) (blkOk_by (N := nGo) (sc := defScope sGon) (by decide +kernel)) (fun _ _ _ _ _ => pg_name (i := 6) scGo.nd rfl (Or.inl rfl)) (fun _ _ _ _ _ => (pts_one (pt_cmpR op_ne (pv 6) (pv 1) (nomark _)))) (fun _ _ _ _ _ => (pv 6))) pa_nil))) rfl)) pss_nil)))) (pss_one (ps_dput (u1 hr) (pv 0) pe_str (pv 3) rfl))))))), ?_⟩
    have h8 := d.h8
    have l256 := d.l256
    have hjl : j < ls.length := (List.getElem?_eq_some_iff.mp hj).1
    have hl1 : 1 ≤ ls.length := by omega
    obtain ⟨vs, e1, e2⟩ := W.lv
    have hvs := Paired.len e2
    refine ⟨_, rfl, w, _, rfl, wx_l W.w, ?_⟩
    dsimp only [gName]
    refine ⟨_, rfl, _, rfl, lv, vs, (j : Int), j, rfl, rfl, e1, ixN_nat (by omega), ?_⟩
    have W1 := W.putL (vs := vs.set j .non) hl1 (paired_set (x := .non) (y := none) e2 rfl)
    have b1 : BL (own w lv nd ms) H (upd H lv (.lst (vs.set j .non))) := .upd (by simp [own])
    generalize upd H lv (.lst (vs.set j .non)) = H1 at *
    refine fun D nD => ?_
    have nDo : D ∉ own w lv nd ms := fun hm => W1.there hm nD
    have nDH := b1.nw nD nDo
    have s2 := same_upd (o := HO.dT []) nD
    have hD2 : (upd H1 D (.dT [])) D = some (.dT []) := upd_same
    have W2 := W1.same s2
    generalize upd H1 D (.dT []) = H2 at *
    dsimp only [gName]
    refine ⟨_, rfl, _, rfl, w, lv, nd, h, j, rfl, W2.w, h8, fun H3 ab us s3 nab hab hpa => ?_⟩
    have W3 := W2.same s3
    have hD3 := s3 _ _ hD2
    have b3 := (b1.trans (.same s2)).trans (.same s3)
    have nabD : ab ≠ D := fun e => by rw [e, hD2] at nab; cases nab
    have nabo : ab ∉ own w lv nd ms := fun hm => W2.there hm nab
    dsimp only [gName]
    obtain ⟨kvs, f1, f2⟩ := W3.nd
    have ndD : nd ≠ D := fun e => nDo (by rw [← e]; simp [own])
    refine ⟨nd, .dT kvs, f1, trivial, fun od => ?_⟩
    have hnl := d.nl
    have hmsl : ms.length ≤ 1152 := by
      have e : (ms.map (·.1)).length ≤ ns.length := by
        have nd1 : (ms.map (·.1)).Nodup := List.pairwise_map.mpr ((List.pairwise_map.mp W3.nk).imp fun {a b} h e => h (congrArg Prod.fst e))
        exact nd1.length_le_of_subset fun n hn => (W3.mem n).mp hn
      rw [List.length_map] at e
      omega
    have hkl := Paired.len f2
    obtain ⟨fr, hfr⟩ : ∃ fr : HO, fr = .frz od (.dT kvs) := ⟨_, rfl⟩
    have hL1 : (upd H3 nd (.frz od (.dT kvs))) nd = some (.frz od (.dT kvs)) := upd_same
    have hDL : (upd H3 nd (.frz od (.dT kvs))) D = some (.dT []) := by rw [upd_ne (Ne.symm ndD)]; exact hD3
    have f2L : Paired (EntAt (upd H3 nd (.frz od (.dT kvs)))) kvs ms := Paired.mapP f2 fun _ _ r => r.upd f1
    have tkL : TK H3 (upd H3 nd (.frz od (.dT kvs))) := .upd f1 (fun _ e => by cases e)
    have nndw : w ≠ nd := fun e => by have := W3.w; rw [e, f1] at this; cases this
    have nDw : w ≠ D := fun e => by have := W3.w; rw [e, hD3] at this; cases this
    have wL : (upd H3 nd (.frz od (.dT kvs))) w = some (.dK (worldL h lv nd)) := by rw [upd_ne nndw]; exact W3.w
    obtain ⟨lvs, l1, l2⟩ := W3.lv
    have nndl : lv ≠ nd := fun e => by rw [e, f1] at l1; cases l1
    have nDl : lv ≠ D := fun e => by rw [e, hD3] at l1; cases l1
    have nwl : lv ≠ w := fun e => by have := W3.w; rw [← e, l1] at this; cases this
    have lL : (upd H3 nd (.frz od (.dT kvs))) lv = some (.lst lvs) := by rw [upd_ne nndl]; exact l1
    have nabnd : ab ≠ nd := fun e => by rw [e, f1] at hab; cases hab
    have habL : (upd H3 nd (.frz od (.dT kvs))) ab = some (.lst us) := by rw [upd_ne nabnd]; exact hab
    have hpaL := Paired.mapP hpa fun _ _ r => r.tk tkL
    have freeL : ∀ p, (upd H3 nd (.frz od (.dT kvs))) p = none → H3 p = none := fun p e => by
      by_cases z : p = nd
      · rw [z, hL1] at e; cases e
      · rw [upd_ne z] at e; exact e
    refine ⟨_, rfl, w, _, rfl, wx_n wL, nd, od, rfl, .inr ⟨kvs, hL1, ?_⟩⟩
    refine for_it (walk_keysT (d := nd) (o := od) (kvs := kvs)) (fun i σ G => ∃ (y5 y6 : Option V) (kvs2 : List (List Key × V)) (ms2 : List Me), σ = [some (.ref w), some (.int (j : Nat)), some (.ref lv), some (.ref D), some (.ref ab), y5, y6] ∧ BL [D] (upd H3 nd (.frz od (.dT kvs))) G ∧ G D = some (.dT kvs2) ∧ Paired (EntAt G) kvs2 ms2 ∧ ms2.map (·.1) = ((ms.take i).map (·.1)).filter (offN j) ∧ (ms2.map (·.2)).Nodup ∧ ∀ c ∈ ms2.map (·.2), H c = none ∧ c ≠ D) ⟨_, _, [], [], rfl, .refl, hDL, .nil, rfl, List.nodup_nil, (by simp)⟩ (fun i σ G _ hG => by obtain ⟨_, _, _, _, _, b, _⟩ := hG; exact b _ _ (by simpa using ndD) hL1) ?_ ?_
    · rintro i y σ G G' hi ⟨y5, y6, kvs2, ms2, rfl, bG, hD, hpE, hms, hnc, hfr2⟩ ⟨rfl, kk, v, a0, hkv, rfl, hq⟩
      obtain ⟨m, hm, r1, _⟩ := Paired.at' f2L hkv
      dsimp only at r1
      subst r1
      have hmm := List.mem_of_getElem? hm
      obtain ⟨a, l, ev, r3, r4, r5⟩ := (ent_val f2L m.1.1).1 m (fndM_of W3.nk hmm)
      have hmn : m.1 ∈ ns := (W3.mem m.1).mp (List.mem_map_of_mem hmm)
      have ro := d.gn m.1 hmn
      have naD : a ≠ D := fun e => by rw [e, hDL] at r3; cases r3
      have ncD : m.2 ≠ D := fun e => by rw [e, hDL] at r4; cases r4
      have g3 := bG _ _ (by simpa using naD) r3
      have g4 := bG _ _ (by simpa using ncD) r4
      have hna := bG _ _ (by simpa using ndD) hL1
      have gw := bG _ _ (by simpa using nDw) wL
      have gab := bG _ _ (by simpa using nabD) habL
      have tkG : TK (upd H3 nd (.frz od (.dT kvs))) G' := .bl bG (fun p hp xs e => by obtain rfl := List.mem_singleton.mp hp; rw [hDL] at e; cases e) (fun p hp o u e => by obtain rfl := List.mem_singleton.mp hp; rw [hDL] at e; cases e)
      have hpaG := Paired.mapP hpaL fun _ _ r => r.tk tkG
      have hdg : ∀ G2, Same G' G2 → DGet G2 nd (.ref a0) (some (.ref a)) := fun G2 s => by
        exact .inr ⟨kvs, nkey m.1.1, a0, .inr ⟨od, s _ _ hna⟩, rfl, s _ _ hq, ev.symm⟩
      have dq : Dp K G' (.ref a0) (dKy m.1.1) := .tup (.of hq) (.cons (.int _) (.cons (.int _) .nil))
      have dab : Dp K G' (.ref ab) (.list ((pathL h j).map dKy)) := .lst (.of gab) (dp_map hpaG fun v b r => by
        obtain ⟨a1, rfl, e⟩ := r
        exact .tup (.of e) (.cons (.int _) (.cons (.int _) .nil)))
      have ksm : m.1.1.1 ≤ 1000 ∧ m.1.1.2 ≤ 1000 := by
        have := ro.b128 h8
        have := ro.lh
        omega
      dsimp only [gName]
      refine ⟨_, rfl, _, rfl, dKy m.1.1, (pathL h j).map dKy, dq, dab, shaped_ky ksm, shaped_kys (path_small h8 (by omega)), _, rfl, ?_⟩
      rw [any_keys, off_path ro, Bool.not_not]
      have htk := take_snoc hm
      cases hoff : offN j m.1 with
      | false =>
        refine iteF ⟨_, _, kvs2, ms2, rfl, bG, hD, hpE, ?_, hnc, hfr2⟩
        rw [hms, htk, List.map_append, List.filter_append]
        show _ = _ ++ List.filter (offN j) [m.1]
        rw [List.filter_cons_of_neg (by rw [hoff]; exact Bool.false_ne_true), List.filter_nil, List.append_nil]
      | true =>
        have hax : ∀ x ∈ l, x ≠ j := fun x hx e => by
          have h1 := (ro.as x (r5.mem_iff.mp hx)).1
          unfold offN at hoff
          rw [e] at h1
          simp [h1] at hoff
        have hll2 : l.length ≤ 256 := by rw [r5.length_eq]; exact ro.le
        refine iteT ⟨_, rfl, w, _, rfl, wx_n gw, _, rfl, nd, _, rfl, hdg _ (Same.refl _), a, _, _, .int m.1.2.1, rfl, rfl, .of g3, atI_nat (j := 0) rfl, _, rfl, w, _, rfl, wx_n gw, _, rfl, nd, _, rfl, hdg _ (Same.refl _), a, _, _, .ref m.2, rfl, rfl, .of g3, atI_nat (j := 1) rfl, m.2, rfl, ⟨_, SqL.of g4⟩, fun D2 nD2 => ?_⟩
        refine lcF (walk_list (xs := nN l)) (fun i => (nN l)[i]?) (Nat.lt_of_le_of_lt (show (nN l).length ≤ 256 by rw [nN_len]; exact hll2) (by decide)) nD2 (fun _ s => SqL.of (s _ _ g4)) ?_ ?_
        · rintro i2 y G1 G2 Q' N' hi2 sm ⟨rfl, hy⟩ hq' hn'
          unfold nN at hy
          rw [List.getElem?_map] at hy
          cases hx : l[i2]? with
          | none => rw [hx] at hy; cases hy
          | some x =>
            rw [hx] at hy
            obtain rfl : V.int (x : Nat) = y := Option.some.inj hy
            refine ⟨rfl, _, rfl, _, rfl, rfl, _, rfl, ?_⟩
            have hne : decide (V.int (x : Nat) = V.int (j : Nat)) = false := decide_eq_false fun e => hax x (List.mem_of_getElem? hx) (by have := V.int.inj e; omega)
            rw [hne]
            refine iteT ⟨_, rfl, hq' _ ?_ _ (Same.refl _)⟩
            show (nN l)[i2]? = _
            unfold nN
            rw [List.getElem?_map, hx]
            rfl
        intro G1 s1 hD2
        rw [rg_get] at hD2
        refine ⟨by show 2 ≤ sizeLine; decide, fun p np => ?_⟩
        have u2 := same_upd (o := HO.lst [.int m.1.2.1, .ref D2]) np
        have hp2 : (upd G1 p (.lst [.int m.1.2.1, .ref D2])) p = some (.lst [.int m.1.2.1, .ref D2]) := upd_same
        have hD22 := u2 _ _ hD2
        have u := s1.trans u2
        have nD2D : D2 ≠ D := fun e => by rw [e, hD] at nD2; cases nD2
        have nD2H : H D2 = none := by
          have z1 := freeL _ (bG.nw nD2 (by simpa using nD2D))
          exact b3.nw z1 fun hm => W3.there hm z1
        have npD : p ≠ D := fun e => by rw [e, s1 _ _ hD] at np; cases np
        have nc1 : D2 ∉ ms2.map (·.2) := fun hc => by
          obtain ⟨x, hx, rfl⟩ := List.mem_map.mp hc
          obtain ⟨kv, _, _, a', l', _, _, h4, _⟩ := paired_mem hpE hx
          rw [h4] at nD2
          cases nD2
        have hDu := u _ _ hD
        have hqu := u _ _ hq
        generalize upd G1 p (.lst [.int m.1.2.1, .ref D2]) = G2 at *
        have hkl2 : kvs2.length ≤ 1152 := by
          have e1 := Paired.len hpE
          have e2 := congrArg List.length hms
          rw [List.length_map] at e2
          have e3 := List.length_filter_le (offN j) ((ms.take i).map (·.1))
          rw [List.length_map, List.length_take] at e3
          omega
        refine ⟨_, rfl, _, rfl, D, _, rfl, DPut.t (k := nkey m.1.1) hDu hqu (Nat.lt_of_le_of_lt hkl2 (by decide)), ?_⟩
        have e7 : (ms2.map (·.1)) ++ [m.1] = ((ms.take (i + 1)).map (·.1)).filter (offN j) := by
          rw [hms, htk, List.map_append, List.filter_append]
          show _ = _ ++ List.filter (offN j) [m.1]
          rw [List.filter_cons_of_pos hoff, List.filter_nil]
        have hne : m.1.1 ∉ ms2.map (·.1.1) := fun hk => by
          have n1 : ((ms.map (·.1)).map (·.1)).Nodup := by rw [List.map_map]; exact W3.nk
          have n2 : (((ms2.map (·.1)) ++ [m.1]).map (·.1)).Nodup := by
            rw [e7]
            exact n1.sublist ((List.filter_sublist.trans ((List.take_sublist _ _).map _)).map _)
          rw [List.map_append, List.nodup_append, List.map_map] at n2
          exact n2.2.2 _ hk _ (List.mem_singleton.mpr rfl) rfl
        have hput : putM ms2 (m.1, D2) = ms2 ++ [(m.1, D2)] := by unfold putM; rw [if_neg hne]
        refine ⟨_, _, _, putM ms2 (m.1, D2), rfl, (bG.trans (.same u)).trans (.upd (by simp)), upd_same, ?_, ?_, ?_, ?_⟩
        · refine ent_put (paired_impM hpE fun kv x hx r => (r.same u).upd hDu) (m := (m.1, D2)) ⟨rfl, p, l, rfl, ?_, ?_, r5⟩
          · rw [upd_ne npD]
            exact hp2
          · rw [upd_ne nD2D]
            exact hD22
        · rw [hput, List.map_append]
          exact e7
        · rw [hput, List.map_append, List.nodup_append]
          exact ⟨hnc, by simp, fun x hx y hy => by
            obtain rfl : y = D2 := by simpa using hy
            rintro rfl
            exact nc1 hx⟩
        · intro c hc
          rw [hput, List.map_append] at hc
          rcases List.mem_append.mp hc with hc | hc
          · exact hfr2 c hc
          · obtain rfl : c = D2 := by simpa using hc
            exact ⟨nD2H, nD2D⟩
    · rintro σ G ⟨y5, y6, kvs2, ms2, rfl, bG, hD, hpE, hms, hnc, hfr2⟩
      have gnd := bG _ _ (by simpa using ndD) hL1
      refine ⟨gnd, ?_⟩
      have tkG : TK (upd H3 nd (.frz od (.dT kvs))) G := .bl bG (fun p hp xs e => by obtain rfl := List.mem_singleton.mp hp; rw [hDL] at e; cases e) (fun p hp o u e => by obtain rfl := List.mem_singleton.mp hp; rw [hDL] at e; cases e)
      have nndG : ∀ vs, (HO.frz od (.dT kvs)) ≠ .lst vs := fun _ e => by cases e
      have gw := bG _ _ (by simpa using nDw) wL
      have gl := bG _ _ (by simpa using nDl) lL
      have hw2 : (upd G nd (.dT kvs)) w = some (.dK (worldL h lv nd)) := by rw [upd_ne nndw]; exact gw
      refine ⟨_, rfl, _, rfl, w, _, rfl, wp_n hw2, ?_⟩
      have tk5 : TK G (upd (upd G nd (.dT kvs)) w (.dK (worldL h lv D))) := .trans ⟨fun p xs e => by rw [upd_ne (fun z => by rw [z, gnd] at e; cases e)]; exact e, fun p o xs e => by rw [upd_ne (fun z => by rw [z, gnd] at e; cases e)]; exact e⟩ (.upd hw2 (fun _ e => by cases e))
      have hD5 : (upd (upd G nd (.dT kvs)) w (.dK (worldL h lv D))) D = some (.dT kvs2) := by rw [upd_ne (Ne.symm nDw), upd_ne (Ne.symm ndD)]; exact hD
      have hl5 : (upd (upd G nd (.dT kvs)) w (.dK (worldL h lv D))) lv = some (.lst lvs) := by rw [upd_ne nwl, upd_ne nndl]; exact gl
      have b5 : BL (own w lv nd ms) H (upd (upd G nd (.dT kvs)) w (.dK (worldL h lv D))) := fun x o hx e => by
        have x1 : x ≠ nd := fun z => hx (by rw [z]; simp [own])
        have x2 : x ≠ w := fun z => hx (by rw [z]; simp [own])
        have x3 : x ≠ D := fun z => by rw [z, nDH] at e; cases e
        rw [upd_ne x2, upd_ne x1]
        refine bG _ _ (by simpa using x3) ?_
        rw [upd_ne x1]
        exact b3 _ _ hx e
      refine q _ D ms2 b5 (fun a ha => ?_) ⟨upd_same, ⟨lvs, hl5, Paired.mapP l2 fun _ _ r => ((r.tk tkL).tk tkG).tk tk5⟩, ⟨kvs2, hD5, Paired.mapP hpE fun _ _ r => (r.updF gnd nndG).updK hw2⟩, ?_, hnc, fun n => ?_⟩
      · unfold own at ha ⊢
        rcases List.mem_cons.mp ha with rfl | ha
        · exact .inl (by simp)
        rcases List.mem_cons.mp ha with rfl | ha
        · exact .inl (by simp)
        rcases List.mem_cons.mp ha with rfl | ha
        · exact .inr nDH
        · exact .inr (hfr2 a ha).1
      · rw [show ms2.map (·.1.1) = (ms2.map (·.1)).map (·.1) by rw [List.map_map]; rfl, hms]
        have e : ((ms.map (·.1)).map (·.1)).Nodup := by rw [List.map_map]; exact W3.nk
        exact e.sublist ((List.filter_sublist.trans ((List.take_sublist _ _).map _)).map _)
      · rw [hms, hkl, List.take_length, List.mem_filter, List.mem_filter, W3.mem]
abbrev nNw : List Str := ["w", "leaf", "locks", "leaves", "nodes", "above", "k"]
theorem scNw : FnScope nNw ["w", "leaf", "locks"] (defScope sNew) := ⟨rfl, rfl, rfl, by decide +kernel, rfl, by decide +kernel, by decide +kernel⟩
theorem ok_new {f : Addr} {fd : FuncData} {k : Nat} (F : Fun K "_law_new" "_law_new" sNew f fd) (T : Tx mg) (cA : Cal P w K mg base (k + 1) "_law_above" ["w", "leaf"] spAbv) : FnOk P w K mg base CX0 (k + 2) f fd ["w", "leaf", "locks"] spNew := by
  refine F.ok scNw (fun vs H Q E h => ?_) (fun cdv A outer s H vs Q E hr h => ?_)
  · obtain ⟨w, lv, nd, ms, h, ls, ns, j, p, lk, ks, rfl, _⟩ := h
    rfl
  · obtain ⟨w, lv, nd, ms, h, ls, ns, j, p, lk, ks, rfl, W, d, hj, hlk, hkl, q⟩ := h
    refine ⟨_, (pss_cons (ps_set (i := 3) scNw.nd rfl (Or.inl rfl) (pe_dget (u1 hr) (pv 0) pe_str (fun _ _ => rfl))) (pss_cons (ps_set (i := 4) scNw.nd rfl (Or.inl rfl) (pe_dget (u1 hr) (pv 0) pe_str (fun _ _ => rfl))) (pss_cons (ps_asg (pe_tup (pa_cons (pe_ix ix_tup (pe_ix ix_list (pv 3) (pv 1) (fun _ _ => rfl)) pe_int (fun _ _ => rfl)) (pa_cons (pe_ix ix_tup (pv 2) pe_int (fun _ _ => rfl)) pa_nil))) (pg_sub (pv 3) (pv 1) set_list)) (pss_cons (ps_set (i := 5) scNw.nd rfl (Or.inl rfl) (pe_c cA hr (by omega) (by rfl) (pa_cons (pv 0) (pa_cons (pv 1) pa_nil)))) (pss_one (ps_for PassesOwn.never rfl (pi_range1 (by rfl) T.range_ (pa_cons (pe_callB call_len_seq (by rfl) T.len_ PySem.boot_len (pa_cons (pv 5) pa_nil)) pa_nil)) (pg_name (i := 6) scNw.nd rfl (Or.inl rfl)) (pss_one (ps_dput (u1 hr) (pv 4) (pe_ix ix_list (pv 5) (pv 6) (fun _ _ => rfl)) (pe_lst (pa_cons (pe_ix ix_tup (pv 2) (pe_op op_add (pv 6) pe_int) (fun _ _ => rfl)) (pa_cons (pe_lst pa_nil) pa_nil))) rfl)))))))), ?_⟩
    have h8 := d.h8
    have l256 := d.l256
    have hnl := d.nl
    have hjl : j < ls.length := (List.getElem?_eq_some_iff.mp hj).1
    have hl1 : 1 ≤ ls.length := by omega
    obtain ⟨vs, e1, e2⟩ := W.lv
    have hvs := Paired.len e2
    obtain ⟨x0, hx0, r0⟩ := Paired.at e2 hj
    obtain ⟨pa, rfl, hpa0⟩ := r0
    have hlT : SqT K H lk (ks.map V.int) := TR.sq (K := K) hlk
    refine ⟨_, rfl, w, _, rfl, wx_l W.w, _, rfl, w, _, rfl, wx_n W.w, ?_⟩
    dsimp only [gName]
    refine ⟨_, rfl, _, rfl, lv, vs, (j : Int), .ref pa, rfl, rfl, .of e1, ?_⟩
    obtain ⟨k0, hk0⟩ : ∃ k0, ks[0]? = some k0 := ⟨ks[0], List.getElem?_eq_getElem (by omega)⟩
    have ek0 : ks.getD 0 0 = k0 := by rw [List.getD_eq_getElem?_getD, hk0]; rfl
    rw [ek0] at q
    refine ⟨atI_nat hx0, pa, _, _, .str p.1, rfl, rfl, .of hpa0, atI_nat (j := 0) rfl, _, rfl, lk, _, _, .int k0, rfl, rfl, hlT, atI_nat (j := 0) (by rw [List.getElem?_map, hk0]; rfl), by show 2 ≤ sizeLine; decide, fun p1 np1 => ⟨_, rfl, _, rfl, lv, vs, (j : Int), j, rfl, rfl, same_upd np1 _ _ e1, ixN_nat (by omega), ?_⟩⟩
    have u1 := same_upd (o := HO.tup [.str p.1, .int k0]) np1
    have W1 := W.same u1
    have hp1 : LfAt (upd H p1 (.tup [.str p.1, .int k0])) (.ref p1) (some (p.1, k0)) := ⟨p1, rfl, upd_same⟩
    have b1 : BL (own w lv nd ms) H (upd H p1 (.tup [.str p.1, .int k0])) := .same u1
    have hlk1 := TR.same (K := K) hlk u1
    have e21 := Paired.mapP e2 fun _ _ r => r.tk (.same u1)
    have e11 := u1 _ _ e1
    generalize upd H p1 (.tup [.str p.1, .int k0]) = H1 at *
    have W2 := W1.putL (vs := vs.set j (.ref p1)) hl1 (paired_set e21 hp1)
    have b2 : BL (own w lv nd ms) H (upd H1 lv (.lst (vs.set j (.ref p1)))) := b1.trans (.upd (by simp [own]))
    have tk2 : TK H1 (upd H1 lv (.lst (vs.set j (.ref p1)))) := .upd e11 (fun _ e => by cases e)
    have hlk2 := TR.tk (K := K) hlk1 tk2
    generalize upd H1 lv (.lst (vs.set j (.ref p1))) = H2 at *
    refine ⟨_, rfl, _, rfl, w, lv, nd, h, j, rfl, W2.w, h8, fun H3 ab us s3 nab hab hpa => ?_⟩
    have W3 := W2.same s3
    have b3 := b2.trans (.same s3)
    have hlk3 := TR.same (K := K) hlk2 s3
    have nabo : ab ∉ own w lv nd ms := fun hm => W2.there hm nab
    have hul : us.length = h := by rw [Paired.len hpa, path_len]
    dsimp only [gName]
    refine ⟨_, rfl, ab, us, rfl, .inl (SqL.of hab), _, rfl, by omega, by omega, ?_⟩
    obtain ⟨kvs, f1, f2⟩ := W3.nd
    have nndw : w ≠ nd := fun e => by have := W3.w; rw [e, f1] at this; cases this
    obtain ⟨lvs, l1, l2⟩ := W3.lv
    have nndl : lv ≠ nd := fun e => by rw [e, f1] at l1; cases l1
    have nabnd : ab ≠ nd := fun e => by rw [e, f1] at hab; cases hab
    have hmsl : ms.length ≤ 1152 := by
      have e : (ms.map (·.1)).length ≤ ns.length := by
        have nd1 : (ms.map (·.1)).Nodup := List.pairwise_map.mpr ((List.pairwise_map.mp W3.nk).imp fun {a b} h e => h (congrArg Prod.fst e))
        exact nd1.length_le_of_subset fun n hn => (W3.mem n).mp hn
      rw [List.length_map] at e
      omega
    refine for_it (walk_range (lo := 0)) (fun i σ G => ∃ (y6 : Option V) (kvs2 : List (List Key × V)) (ms2 : List Me), σ = [some (.ref w), some (.int (j : Nat)), some (.ref lk), some (.ref lv), some (.ref nd), some (.ref ab), y6] ∧ BL [nd] H3 G ∧ G nd = some (.dT kvs2) ∧ Paired (EntAt G) kvs2 ms2 ∧ (ms2.map (·.1.1)).Nodup ∧ (ms2.map (·.2)).Nodup ∧ (∀ n, n ∈ ms2.map (·.1) ↔ n ∈ upN j ks i ∨ n ∈ ns ∧ n.1 ∉ pathL i j) ∧ (∀ c ∈ ms2.map (·.2), c ∈ ms.map (·.2) ∨ H c = none) ∧ ms2.length ≤ 1152 + i) ⟨_, kvs, ms, rfl, .refl, f1, f2, W3.nk, W3.nc, (fun n => by rw [W3.mem]; simp [upN, pathL]), (fun c hc => .inl hc), hmsl⟩ (fun i σ G _ _ => trivial) ?_ ?_
    · rintro i y σ G G' hi ⟨y6, kvs2, ms2, rfl, bG, hD, hpE, hnk, hnc, hmem, hfr, hlen⟩ ⟨rfl, hy⟩
      have hih : i < h := by omega
      obtain rfl : y = .int ((i : Nat) : Int) := hy.trans (congrArg V.int (by omega))
      have tkG : TK H3 G' := .bl bG (fun p hp xs e => by obtain rfl := List.mem_singleton.mp hp; rw [f1] at e; cases e) (fun p hp o u e => by obtain rfl := List.mem_singleton.mp hp; rw [f1] at e; cases e)
      have gab := bG _ _ (by simpa using nabnd) hab
      have hlkG := TR.tk (K := K) hlk3 tkG
      have hpi : (pathL h j)[i]? = some (i + 1, j / 2 ^ (i + 1)) := by unfold pathL; rw [List.getElem?_map, List.getElem?_range hih]; rfl
      obtain ⟨xa, hxa, a0, rfl, hpr⟩ := Paired.at hpa hpi
      have hprG := tkG.1 _ _ hpr
      obtain ⟨k1, hk1⟩ : ∃ k1, ks[i + 1]? = some k1 := ⟨ks[i + 1], List.getElem?_eq_getElem (by omega)⟩
      have ek1 : ks.getD (i + 1) 0 = k1 := by rw [List.getD_eq_getElem?_getD, hk1]; rfl
      dsimp only [gName]
      refine ⟨_, rfl, _, rfl, _, _, rfl, rfl, lk, _, ((i + 1 : Nat) : Int), .int k1, rfl, rfl, TR.sq (K := K) hlkG, atI_nat (j := i + 1) (by rw [List.getElem?_map, hk1]; rfl), Nat.zero_le _, fun nl nnl => ⟨by show 2 ≤ sizeLine; decide, fun p2 np2 => ?_⟩⟩
      have v1 := same_upd (o := HO.lst []) nnl
      have v2 := same_upd (o := HO.lst [.int k1, .ref nl]) np2
      have u := v1.trans v2
      have nnd : nl ≠ nd := fun e => by rw [e, hD] at nnl; cases nnl
      have nlH : H nl = none := by
        have z1 := bG.nw nnl (by simpa using nnd)
        exact b3.nw z1 fun hm => W3.there hm z1
      have nc1 : nl ∉ ms2.map (·.2) := fun hc => by
        obtain ⟨x, hx, rfl⟩ := List.mem_map.mp hc
        obtain ⟨kv, _, _, a', l', _, _, h4, _⟩ := paired_mem hpE hx
        rw [h4] at nnl
        cases nnl
      have hnl2 := v2 _ _ (upd_same (H := G') (a := nl) (o := HO.lst []))
      have hp2 : (upd (upd G' nl (.lst [])) p2 (.lst [.int k1, .ref nl])) p2 = some (.lst [.int k1, .ref nl]) := upd_same
      have np2d : p2 ≠ nd := fun e => by rw [e, v1 _ _ hD] at np2; cases np2
      have hDu := u _ _ hD
      have hqu := u _ _ hprG
      have gabu := u _ _ gab
      generalize upd (upd G' nl (.lst [])) p2 (.lst [.int k1, .ref nl]) = G2 at *
      have hkl2 := Paired.len hpE
      refine ⟨_, rfl, _, rfl, _, rfl, ab, us, _, .ref a0, rfl, rfl, .of gabu, atI_nat hxa, nd, _, rfl, DPut.t (k := nkey (i + 1, j / 2 ^ (i + 1))) hDu hqu (Nat.lt_of_le_of_lt (show kvs2.length ≤ 1200 by omega) (by decide)), ?_⟩
      have hup : upN j ks (i + 1) = upN j ks i ++ [((i + 1, j / 2 ^ (i + 1)), k1, [])] := by
        unfold upN
        rw [List.range_succ, List.map_append, ← ek1]
        rfl
      refine ⟨_, _, putM ms2 (((i + 1, j / 2 ^ (i + 1)), k1, []), nl), rfl, (bG.trans (.same u)).trans (.upd (by simp)), upd_same, ?_, putM_keys hnk, putM_snd hnk hnc nc1, ?_, ?_, ?_⟩
      · refine ent_put (m := (((i + 1, j / 2 ^ (i + 1)), k1, []), nl)) (paired_impM hpE fun kv x hx r => (r.same u).upd hDu) ⟨rfl, p2, [], rfl, ?_, ?_, .refl _⟩
        · rw [upd_ne np2d]
          exact hp2
        · rw [upd_ne nnd]
          exact hnl2
      · intro n
        rw [hup, pathL_succ, List.mem_append, List.mem_append, List.mem_singleton, List.mem_singleton]
        have e : n ∈ (putM ms2 (((i + 1, j / 2 ^ (i + 1)), k1, []), nl)).map (·.1) ↔ n = ((i + 1, j / 2 ^ (i + 1)), k1, []) ∨ n ∈ ms2.map (·.1) ∧ n.1 ≠ (i + 1, j / 2 ^ (i + 1)) := by
          rw [List.mem_map]
          constructor
          · rintro ⟨x, hx, rfl⟩
            rcases putM_mem.mp hx with rfl | ⟨hx1, hx2⟩
            · exact .inl rfl
            · exact .inr ⟨List.mem_map_of_mem hx1, hx2⟩
          · rintro (rfl | ⟨hx1, hx2⟩)
            · exact ⟨_, putM_mem.mpr (.inl rfl), rfl⟩
            · obtain ⟨x, hx, rfl⟩ := List.mem_map.mp hx1
              exact ⟨x, putM_mem.mpr (.inr ⟨hx, hx2⟩), rfl⟩
        rw [e, hmem]
        have e3 : n ∈ upN j ks i → n.1 ≠ (i + 1, j / 2 ^ (i + 1)) := fun hn e => by
          obtain ⟨k', hk', rfl⟩ := List.mem_map.mp hn
          rw [List.mem_range] at hk'
          have := congrArg Prod.fst e
          dsimp only at this
          omega
        constructor
        · rintro (rfl | ⟨h1 | ⟨h1, h2⟩, h3⟩)
          · exact .inl (.inr rfl)
          · exact .inl (.inl h1)
          · exact .inr ⟨h1, fun z => z.elim h2 h3⟩
        · rintro ((h1 | rfl) | ⟨h1, h2⟩)
          · exact .inr ⟨.inl h1, e3 h1⟩
          · exact .inl rfl
          · exact .inr ⟨.inr ⟨h1, fun z => h2 (.inl z)⟩, fun z => h2 (.inr z)⟩
      · intro c hc
        obtain ⟨x, hx, rfl⟩ := List.mem_map.mp hc
        rcases putM_mem.mp hx with rfl | ⟨hx1, hx2⟩
        · exact .inr nlH
        · exact hfr _ (List.mem_map_of_mem hx1)
      · have := putM_len ms2 (((i + 1, j / 2 ^ (i + 1)), k1, []), nl)
        omega
    · rintro σ G ⟨y6, kvs2, ms2, rfl, bG, hD, hpE, hnk, hnc, hmem, hfr, hlen⟩
      have eh : ((us.length : Nat) : Int).toNat = h := by omega
      rw [eh] at hmem
      have tkG : TK H3 G := .bl bG (fun p hp xs e => by obtain rfl := List.mem_singleton.mp hp; rw [f1] at e; cases e) (fun p hp o u e => by obtain rfl := List.mem_singleton.mp hp; rw [f1] at e; cases e)
      refine q _ ms2 (fun x o hx e => ?_) (fun a ha => ?_) ⟨bG _ _ (by simpa using nndw) W3.w, ⟨lvs, bG _ _ (by simpa using nndl) l1, Paired.mapP l2 fun _ _ r => r.tk tkG⟩, ⟨kvs2, hD, hpE⟩, hnk, hnc, fun n => ?_⟩
      · have x1 : x ≠ nd := fun z => hx (by rw [z]; simp [own])
        exact bG _ _ (by simpa using x1) (b3 _ _ hx e)
      · unfold own at ha ⊢
        rcases List.mem_cons.mp ha with rfl | ha
        · exact .inl (by simp)
        rcases List.mem_cons.mp ha with rfl | ha
        · exact .inl (by simp)
        rcases List.mem_cons.mp ha with rfl | ha
        · exact .inl (by simp)
        · rcases hfr a ha with h1 | h1
          · exact .inl (by simp only [List.mem_cons]; exact .inr (.inr (.inr h1)))
          · exact .inr h1
      · rw [hmem]
        unfold newN
        rw [(List.mergeSort_perm _ leNd).mem_iff, List.mem_append, List.mem_filter]
        constructor
        · rintro (h1 | ⟨h1, h2⟩)
          · exact .inr h1
          · refine .inl ⟨h1, ?_⟩
            have e := off_path (j := j) (d.gn n h1)
            rw [decide_eq_false h2] at e
            cases z : offN j n with
            | true => rfl
            | false => rw [z] at e; cases e
        · rintro (⟨h1, h2⟩ | h1)
          · refine .inr ⟨h1, fun h3 => ?_⟩
            have e := off_path (j := j) (d.gn n h1)
            rw [decide_eq_true h3, h2] at e
            cases e
          · exact .inl h1
end
end L2.My
end
section
set_option Elab.async false
set_option linter.all false
set_option maxRecDepth 100000
set_option maxHeartbeats 4000000
/-! _law_is_name, _law_is_number, _law_odd. -/
namespace L2.My
open PySem PySem.Spec PyProof.Rows
abbrev sIsn : Stmt := top 46
abbrev sIsu : Stmt := top 47
abbrev sOd : Stmt := top 48
def oddS : List Str := ["", "aB", "a1", "abcdefghijklm", "a b"]
/-- a text of those that are asked -/
def TmS (v : V) : Prop := ∀ z, v = .str z → wordB z = true ∨ z ∈ oddS
theorem word_len {z : Str} (h : wordB z = true) : 1 ≤ z.length ∧ z.length ≤ 12 ∧ ∀ c ∈ z.cps.toList, signB c = true := by
  unfold wordB at h
  rw [Bool.and_eq_true, Bool.and_eq_true, decide_eq_true_eq, decide_eq_true_eq, List.all_eq_true] at h
  exact ⟨h.1, h.2.1, h.2.2⟩
theorem sign_lh {c : Nat} (h : signB c = true) : 97 ≤ c ∧ c ≤ 122 := by
  unfold signB at h
  rw [Bool.and_eq_true, decide_eq_true_eq, decide_eq_true_eq] at h
  exact h
theorem word_alpha {z : Str} (h : wordB z = true) : Txt.isalpha z = true := by
  obtain ⟨h1, h2, h3⟩ := word_len h
  unfold Txt.isalpha
  rw [Bool.and_eq_true, decide_eq_true_eq]
  refine ⟨h1, ?_⟩
  rw [← Array.all_toList, List.all_eq_true]
  intro c hc
  have hs := sign_lh (h3 c hc)
  have : ∀ c, c < 123 → 97 ≤ c → Unicode.isAlpha c = true := by decide +kernel
  exact this c (by omega) hs.1
theorem word_lower {z : Str} (h : wordB z = true) : Txt.lower z = z := by
  obtain ⟨h1, h2, h3⟩ := word_len h
  exact PySem.W.KXs.lower_still fun c hc => by
    have hs := sign_lh (h3 c hc)
    omega
theorem word_first {z : Str} (h : wordB z = true) : ∃ c, atI z.cps.toList 0 = some c ∧ c ≤ 122 := by
  obtain ⟨h1, h2, h3⟩ := word_len h
  have hl : z.cps.toList.length = z.length := Array.length_toList
  obtain ⟨c, hc⟩ : ∃ c, z.cps.toList[0]? = some c := ⟨z.cps.toList[0]'(by omega), List.getElem?_eq_getElem (by omega)⟩
  exact ⟨c, atI_nat (j := 0) hc, (sign_lh (h3 c (List.mem_of_getElem? hc))).2⟩
def spIsn : Sp := fun vs H Q _ => ∃ (b : Addr) (v : V), vs = [v] ∧ Thg b H v ∧ TmS v ∧ Q (.bl (wordV v)) H
def spIsu : Sp := spNumb
def spOd : Sp := fun vs H Q _ => ∃ (b g : Addr), vs = [.ref b] ∧ BoxAt H b g ∧ ∀ H' v, BL [b] H H' → BoxAt H' b g → Thg b H' v → TmS v → Q v H'
def odL (t l : Addr) : List V := [.non, .bl true, .int (-1), .str "", .str "aB", .str "a1", .str "abcdefghijklm", .ref t, .ref l, .int (10 ^ 31), .str "a b"]
theorem od_all {b t l : Addr} {H : Hp} (nb : ∀ a, H a ≠ none → (∀ kvs, H a ≠ some (.dK kvs)) → a ≠ b) (ht : H t = some (.tup [.int 1])) (hl : H l = some (.lst [])) : ∀ v ∈ odL t l, Thg b H v ∧ TmS v := by
  have no : ∀ {v : V}, (∀ z, v ≠ .str z) → TmS v := fun h z e => absurd e (h z)
  have st : ∀ {y : Str}, y ∈ oddS → TmS (.str y) := fun {y} h z e => .inr (by cases e; exact h)
  have i1 : ∀ x ∈ [V.int 1], Thg b H x := fun x hx => by
    rw [List.mem_singleton.mp hx]
    exact .int 1 (by decide)
  intro v hv
  simp only [odL, List.mem_cons, List.not_mem_nil, or_false] at hv
  rcases hv with rfl | rfl | rfl | rfl | rfl | rfl | rfl | rfl | rfl | rfl | rfl
  · exact ⟨.non, no (by simp)⟩
  · exact ⟨.boo _, no (by simp)⟩
  · exact ⟨.int _ (by decide), no (by simp)⟩
  · exact ⟨.str _ (by decide +kernel), st (by simp [oddS])⟩
  · exact ⟨.str _ (by decide +kernel), st (by simp [oddS])⟩
  · exact ⟨.str _ (by decide +kernel), st (by simp [oddS])⟩
  · exact ⟨.str _ (by decide +kernel), st (by simp [oddS])⟩
  · exact ⟨.tup ht (nb _ (by rw [ht]; simp) (by rw [ht]; simp)) (by decide) i1, no (by simp)⟩
  · exact ⟨.lst hl (nb _ (by rw [hl]; simp) (by rw [hl]; simp)), no (by simp)⟩
  · exact ⟨.int _ (by decide), no (by simp)⟩
  · exact ⟨.str _ (by decide +kernel), st (by simp [oddS])⟩
section
variable {P : Program} {w : World} {K : PySem.W.Frag} {mg : Str → Option Value} {base : Heap}
theorem scIsn : FnScope ["thing"] ["thing"] (defScope sIsn) := ⟨rfl, rfl, rfl, by decide +kernel, rfl, by decide +kernel, by decide +kernel⟩
theorem ok_isn {f : Addr} {fd : FuncData} {k : Nat} (F : Fun K "_law_is_name" "_law_is_name" sIsn f fd) (T : Tx mg) : FnOk P w K mg base CX0 (k + 1) f fd ["thing"] spIsn := by
  refine F.ok scIsn (fun vs H Q E h => ?_) (fun cdv A outer s H vs Q E hr h => ?_)
  · obtain ⟨b, v, rfl, _⟩ := h
    rfl
  · obtain ⟨b, v, rfl, hv, tm, q⟩ := h
    obtain ⟨t, ht⟩ := hv.th
    refine ⟨_, (pss_one (ps_ret (pe_and (pe_callB call_isTh (by rfl) T.isi (by decide +kernel) (pa_cons (pv 0) (pa_cons (pe_bltn (v := .ty "str") (u := .type "str") (by rfl) T.str_ (by decide +kernel) rfl) pa_nil))) (pe_and (pe_chain op_le op_le pe_int (pe_callB call_len_str (by rfl) T.len_ PySem.boot_len (pa_cons (pv 0) pa_nil)) pe_int) (pe_and (pe_m0 PySem.F.slot_str_isalpha PySem.F.type_str_isalpha mt_isalpha (pv 0)) (pe_and (pe_cmpR op_eq (pv 0) (pe_lower (pv 0)) (nomark _)) (pe_one (pe_cmpR (op_le_str) (pe_ix ix_str (pv 0) pe_int (fun _ _ => rfl)) pe_str (nomark _))))))))), ?_⟩
    refine ⟨_, rfl, _, "str", t, rfl, ht, by decide, _, rfl, ?_⟩
    rcases str_cases ht with ⟨z, rfl, rfl⟩ | ⟨e1, e2⟩
    · have ls : z.length ≤ sizeLine := Nat.le_trans hv.len (by decide)
      refine iteT ?_
      rcases tm z rfl with hw | ho
      · obtain ⟨h1, h2, h3⟩ := word_len hw
        obtain ⟨c, c1, c2⟩ := word_first hw
        have q : Q (.bl true) H := by rw [show wordV (.str z) = true from hw] at q; exact q
        refine ⟨_, rfl, z, rfl, ls, _, _, rfl, rfl, _, rfl, ?_⟩
        rw [decide_eq_true (by omega)]
        refine iteT ⟨_, _, rfl, rfl, _, rfl, ?_⟩
        rw [decide_eq_true (by omega)]
        refine iteT ⟨_, rfl, ⟨z, rfl⟩, z, rfl, rfl, trivial, _, rfl, ?_⟩
        rw [word_alpha hw]
        refine iteT ⟨_, rfl, _, rfl, ⟨z, rfl⟩, z, rfl, rfl, Nat.le_trans h2 (by decide), rfl, _, rfl, ?_⟩
        rw [word_lower hw, decide_eq_true rfl]
        refine iteT ⟨_, rfl, z, _, c, rfl, rfl, ls, c1, _, _, rfl, rfl, ?_⟩
        have e1 : (⟨#[c]⟩ : Str).cps.toList = [c] := rfl
        have e3 : (("z" : Str).cps.toList) = [122] := by decide +kernel
        rw [e1, e3, lt1, decide_eq_false (by omega)]
        exact q
      · have ew : wordB z = false := by
          simp only [oddS, List.mem_cons, List.not_mem_nil, or_false] at ho
          rcases ho with rfl | rfl | rfl | rfl | rfl <;> decide +kernel
        have q : Q (.bl false) H := by rw [show wordV (.str z) = false from ew] at q; exact q
        refine ⟨_, rfl, z, rfl, ls, _, _, rfl, rfl, _, rfl, ?_⟩
        by_cases h1 : 1 ≤ z.length
        · rw [decide_eq_true (by omega)]
          refine iteT ⟨_, _, rfl, rfl, _, rfl, ?_⟩
          by_cases h2 : z.length ≤ 12
          · rw [decide_eq_true (by omega)]
            refine iteT ⟨_, rfl, ⟨z, rfl⟩, z, rfl, rfl, trivial, _, rfl, ?_⟩
            by_cases h3 : Txt.isalpha z = true
            · rw [h3]
              refine iteT ⟨_, rfl, _, rfl, ⟨z, rfl⟩, z, rfl, rfl, Nat.le_trans h2 (by decide), rfl, _, rfl, ?_⟩
              have e : decide (V.str z = V.str (Txt.lower z)) = false := by
                simp only [oddS, List.mem_cons, List.not_mem_nil, or_false] at ho
                rcases ho with rfl | rfl | rfl | rfl | rfl
                · exact absurd h1 (by decide +kernel)
                · exact decide_eq_false fun e => absurd (V.str.inj e) (by decide +kernel)
                · exact absurd h3 (by decide +kernel)
                · exact absurd h2 (by decide +kernel)
                · exact absurd h3 (by decide +kernel)
              rw [e]
              exact iteF q
            · rw [Bool.eq_false_iff.mpr h3]
              exact iteF q
          · rw [decide_eq_false (by omega)]
            exact iteF q
        · rw [decide_eq_false (by omega)]
          exact iteF ⟨_, rfl, iteF q⟩
    · rw [e2]
      rw [e1] at q
      exact iteF q
theorem scIsu : FnScope ["thing"] ["thing"] (defScope sIsu) := ⟨rfl, rfl, rfl, by decide +kernel, rfl, by decide +kernel, by decide +kernel⟩
theorem ok_isu {f : Addr} {fd : FuncData} {k : Nat} (F : Fun K "_law_is_number" "_law_is_number" sIsu f fd) (T : Tx mg) : FnOk P w K mg base CX0 (k + 1) f fd ["thing"] spNumb := by
  refine F.ok scIsu (fun vs H Q E h => ?_) (fun cdv A outer s H vs Q E hr h => ?_)
  · obtain ⟨b, v, rfl, _⟩ := h
    rfl
  · obtain ⟨b, v, rfl, hv, q⟩ := h
    obtain ⟨t, ht⟩ := hv.th
    refine ⟨_, (pss_one (ps_ret (pe_and (pe_callB call_isTh (by rfl) T.isi (by decide +kernel) (pa_cons (pv 0) (pa_cons (pe_bltn (v := .ty "int") (u := .type "int") (by rfl) T.int_ (by decide +kernel) rfl) pa_nil))) (pe_and (pe_not (pe_callB call_isTh (by rfl) T.isi (by decide +kernel) (pa_cons (pv 0) (pa_cons (pe_bltn (v := .ty "bool") (u := .type "bool") (by rfl) T.bool_ (by decide +kernel) rfl) pa_nil)))) (pe_one (pe_cmpR op_ge (pv 0) pe_int (nomark _))))))), ?_⟩
    refine ⟨_, rfl, _, "int", t, rfl, ht, by decide, _, rfl, ?_⟩
    rcases num_cases ht with ⟨i, rfl, rfl⟩ | ⟨c, rfl, rfl⟩ | ⟨e1, e2⟩
    · exact iteT ⟨_, rfl, _, "bool", _, rfl, .int i, by decide, _, rfl, _, rfl, iteT ⟨_, rfl, _, _, rfl, rfl, q⟩⟩
    · exact iteT ⟨_, rfl, _, "bool", _, rfl, .bl c, by decide, _, rfl, _, rfl, iteF q⟩
    · rw [e2]
      rw [e1] at q
      exact iteF q
theorem scOd : FnScope ["box"] ["box"] (defScope sOd) := ⟨rfl, rfl, rfl, by decide +kernel, rfl, by decide +kernel, by decide +kernel⟩
theorem ok_od {f : Addr} {fd : FuncData} {k : Nat} (F : Fun K "_law_odd" "_law_odd" sOd f fd) (T : Tx mg) (cD : Cal P w K mg base (k + 3) "_law_draw" ["box", "menu"] spDraw) : FnOk P w K mg base CX0 (k + 4) f fd ["box"] spOd := by
  refine F.ok scOd (fun vs H Q E h => ?_) (fun cdv A outer s H vs Q E hr h => ?_)
  · obtain ⟨b, g, rfl, _⟩ := h
    rfl
  · obtain ⟨b, g, rfl, hB, q⟩ := h
    refine ⟨_, (pss_one (ps_ret (pe_ix ix_list (pe_lst (pa_cons pe_non (pa_cons pe_bl (pa_cons (pe_un un_neg pe_int) (pa_cons pe_str (pa_cons pe_str (pa_cons pe_str (pa_cons pe_str (pa_cons (pe_tup (pa_cons pe_int pa_nil)) (pa_cons (pe_lst pa_nil) (pa_cons (pe_op op_pow pe_int pe_int) (pa_cons pe_str pa_nil)))))))))))) (pe_c cD hr (by omega) (by rfl) (pa_cons (pv 0) (pa_cons pe_int pa_nil))) (fun _ _ => rfl)))), ?_⟩
    refine ⟨_, rfl, ?_⟩
    refine ⟨by show 1 ≤ sizeLine; decide, fun t1 n1 => ⟨Nat.zero_le _, fun l1 nl1 => ?_⟩⟩
    refine ⟨_, _, rfl, rfl, ⟨by decide, by decide⟩, ?_⟩
    refine ⟨by show 11 ≤ sizeLine; decide, fun L nL => ?_⟩
    have u1 := same_upd (o := HO.tup [.int 1]) n1
    have u2 := same_upd (o := HO.lst []) nl1
    have u3 := same_upd (o := HO.lst (odL t1 l1)) nL
    have e1 := u3 _ _ (u2 _ _ (upd_same (H := H) (a := t1) (o := HO.tup [.int 1])))
    have e2 := u3 _ _ (upd_same (a := l1) (o := HO.lst []))
    have e4 := upd_same (H := upd (upd H t1 (.tup [.int 1])) l1 (.lst [])) (a := L) (o := HO.lst (odL t1 l1))
    have u := (u1.trans u2).trans u3
    have hB4 := hB.same u
    have nL0 : L ≠ b := (hB.same (u1.trans u2)).nb nL
    show tCall spDraw [] E0 _ _ (upd (upd (upd H t1 (.tup [.int 1])) l1 (.lst [])) L (.lst (odL t1 l1))) _
    generalize upd (upd (upd H t1 (.tup [.int 1])) l1 (.lst [])) L (.lst (odL t1 l1)) = H1 at *
    refine ⟨_, rfl, b, g, 11, rfl, hB4, by decide, by decide, fun H2 r bl2 hB2 r0 r1 => ?_⟩
    obtain ⟨j, rfl⟩ : ∃ j : Nat, r = j := ⟨r.toNat, by omega⟩
    have hj : j < (odL t1 l1).length := by show j < 11; omega
    have ej := List.getElem?_eq_getElem hj
    obtain ⟨tv, bv⟩ := od_all (b := b) (fun a ha hk hab => by
      obtain ⟨_, _, _, _, _, _, z, _⟩ := hB4
      rw [hab, z] at hk
      exact hk _ rfl) e1 e2 _ (List.getElem_mem hj)
    generalize (odL t1 l1)[j] = v at *
    exact ⟨L, _, _, v, rfl, rfl, .of (bl2 _ _ (by simpa using nL0) e4), atI_nat ej, q H2 v ((BL.same u).trans bl2) hB2 (tv.bl bl2) bv⟩
end
end L2.My
end
section
set_option Elab.async false
set_option linter.all false
set_option maxRecDepth 100000
set_option maxHeartbeats 4000000
/-! _law_deed. -/
namespace L2.My
open PySem PySem.Spec PyProof.Rows
abbrev sDd : Stmt := top 49
/-- a deed -/
inductive Dd where
  | wi (nm lk : V)
  | wo (v : V)
  | rn (v lk : V)
def DeedAt (b : Addr) (H : Hp) (t : Addr) : Dd → Prop
  | .wi nm lk => H t = some (.tup [.str "with", nm, lk]) ∧ Thg b H nm ∧ Thg b H lk ∧ TmS nm
  | .wo v => H t = some (.tup [.str "without", v]) ∧ Thg b H v
  | .rn v lk => H t = some (.tup [.str "renewed", v, lk]) ∧ Thg b H v ∧ Thg b H lk
theorem DeedAt.same {b : Addr} {H H' : Hp} {t : Addr} {x : Dd} (h : DeedAt b H t x) (s : Same H H') : DeedAt b H' t x := by
  cases x with
  | wi nm lk => exact ⟨s _ _ h.1, h.2.1.same s, h.2.2.1.same s, h.2.2.2⟩
  | wo v => exact ⟨s _ _ h.1, h.2.same s⟩
  | rn v lk => exact ⟨s _ _ h.1, h.2.1.same s, h.2.2.same s⟩
theorem BoxAt.nk {H : Hp} {b g : Addr} (h : BoxAt H b g) : ∀ a, H a ≠ none → (∀ kvs, H a ≠ some (.dK kvs)) → a ≠ b := fun a _ hk hab => by
  obtain ⟨_, _, _, _, _, _, z, _⟩ := h
  rw [hab, z] at hk
  exact hk _ rfl
theorem Wd.nbox {H : Hp} {w lv nd b g : Addr} {ms : List Me} {h : Nat} {ls : List Lf} {ns : List Nd} (x : Wd H w lv nd ms h ls ns) (hB : BoxAt H b g) : b ∉ own w lv nd ms := by
  obtain ⟨_, _, _, _, _, _, e, _⟩ := hB
  intro hm
  unfold own at hm
  rcases List.mem_cons.mp hm with rfl | hm
  · have := x.w
    rw [e] at this
    have := HO.dK.inj (Option.some.inj this)
    cases this
  rcases List.mem_cons.mp hm with rfl | hm
  · obtain ⟨vs, e1, _⟩ := x.lv
    rw [e] at e1; cases e1
  rcases List.mem_cons.mp hm with rfl | hm
  · obtain ⟨kvs, e1, _⟩ := x.nd
    rw [e] at e1; cases e1
  · obtain ⟨m, hm', rfl⟩ := List.mem_map.mp hm
    obtain ⟨l, e1, _⟩ := x.ent hm'
    rw [e] at e1; cases e1
theorem Wd.box {H H' : Hp} {w lv nd b g : Addr} {ms : List Me} {h : Nat} {ls : List Lf} {ns : List Nd} (x : Wd H w lv nd ms h ls ns) (hB : BoxAt H b g) (s : BL [b] H H') : Wd H' w lv nd ms h ls ns := by
  have nb := x.nbox hB
  have tk := hB.tk s
  obtain ⟨_, _, _, _, _, _, e, _⟩ := hB
  exact x.bl s tk (fun a ha hm => nb (by rw [← List.mem_singleton.mp hm]; exact ha)) (fun a ha i c e1 => by rw [List.mem_singleton.mp ha, e] at e1; cases e1)
def sN (ls : List Lf) : List Nat := (List.range ls.length).filter fun j => (ls.getD j none).isSome
theorem sN_mem {ls : List Lf} {j : Nat} (h : j ∈ sN ls) : ∃ p, ls[j]? = some (some p) := by
  obtain ⟨h1, h2⟩ := List.mem_filter.mp h
  rw [List.mem_range] at h1
  rw [List.getD_eq_getElem?_getD, List.getElem?_eq_getElem h1] at h2
  obtain ⟨p, hp⟩ := Option.isSome_iff_exists.mp h2
  exact ⟨p, by rw [List.getElem?_eq_getElem h1]; exact congrArg some hp⟩
theorem sN_len (ls : List Lf) : (sN ls).length ≤ ls.length := by
  have := List.length_filter_le (fun j => (ls.getD j none).isSome) (List.range ls.length)
  rw [List.length_range] at this
  exact this
theorem fm_filter {α β : Type} (p : α → Bool) (f : α → β) : ∀ l : List α, l.filterMap (fun i => if p i = true then some (f i) else none) = (l.filter p).map f
  | [] => rfl
  | x :: r => by
    rw [List.filterMap_cons, List.filter_cons, fm_filter p f r]
    by_cases h : p x = true
    · rw [if_pos h, if_pos h]; rfl
    · rw [if_neg h, if_neg h]
theorem tt_use {t : TT} {σ : St} {H : Hp} {Q : Bool → Hp → Prop} (Pm : Bool → Hp → Prop) (h : ∀ c H', Pm c H' → Q c H') (ht : (∀ c H', Pm c H' → Q c H') → t σ H Q) : t σ H Q := ht h
theorem te_use {t : TE} {σ : St} {H : Hp} {Q : VK} (Pm : V → Hp → Prop) (h : ∀ v H', Pm v H' → Q v H') (ht : (∀ v H', Pm v H' → Q v H') → t σ H Q) : t σ H Q := ht h
/-- a word and one letter more -/
def wid (z : Str) : Prop := 1 ≤ z.length ∧ z.length ≤ 13 ∧ ∀ c ∈ z.cps.toList, signB c = true
theorem word_mk {z : Str} (h1 : 1 ≤ z.length) (h2 : z.length ≤ 12) (h3 : ∀ c ∈ z.cps.toList, signB c = true) : wordB z = true := by
  unfold wordB
  rw [Bool.and_eq_true, Bool.and_eq_true, decide_eq_true_eq, decide_eq_true_eq, List.all_eq_true]
  exact ⟨h1, h2, h3⟩
theorem wid_cut {z : Str} (h : wid z) : wordB (cutS z none (some 12)) = true := by
  obtain ⟨h1, h2, h3⟩ := h
  have hl : z.cps.toList.length = z.length := Array.length_toList
  have e : (cutS z none (some 12)).cps.toList = z.cps.toList.take (min 12 z.length) := by
    unfold cutS
    rw [show (12 : Int) = ((12 : Nat) : Int) from rfl, HT.sIx_nat]
    show ((z.cps.toList.drop 0).take (min 12 z.length - 0)).toArray.toList = _
    rw [List.drop_zero, Nat.sub_zero]
  have el : (cutS z none (some 12)).length = min 12 z.length := by
    have : (cutS z none (some 12)).cps.toList.length = (cutS z none (some 12)).length := Array.length_toList
    rw [← this, e, List.length_take]
    omega
  exact word_mk (by omega) (by omega) fun c hc => h3 c (by rw [e] at hc; exact List.mem_of_mem_take hc)
theorem wid_snoc {z : Str} {c : Nat} (h : wordB z = true) (hc : signB c = true) : wid (z ++ ⟨#[c]⟩) := by
  obtain ⟨h1, h2, h3⟩ := word_len h
  have e : (z ++ ⟨#[c]⟩ : Str).cps.toList = z.cps.toList ++ [c] := by rw [PySem.Str.cps_append, Array.toList_append]
  have el : (z ++ ⟨#[c]⟩ : Str).length = z.length + 1 := by
    have a1 : (z ++ ⟨#[c]⟩ : Str).cps.toList.length = (z ++ ⟨#[c]⟩ : Str).length := Array.length_toList
    have a2 : z.cps.toList.length = z.length := Array.length_toList
    rw [← a1, e, List.length_append, a2]
    rfl
  refine ⟨by omega, by omega, fun x hx => ?_⟩
  rw [e] at hx
  rcases List.mem_append.mp hx with hx | hx
  · exact h3 x hx
  · rw [List.mem_singleton.mp hx]; exact hc
theorem wid_word {z : Str} (h : wordB z = true) : wid z := by
  obtain ⟨h1, h2, h3⟩ := word_len h
  exact ⟨h1, by omega, h3⟩
theorem xyz_at {r : Int} (h0 : 0 ≤ r) (h1 : r < 3) : ∃ c, atI ("xyz" : Str).cps.toList r = some c ∧ signB c = true := by
  obtain ⟨j, rfl⟩ : ∃ j : Nat, r = j := ⟨r.toNat, by omega⟩
  have hj : j < 3 := by omega
  have e : ("xyz" : Str).cps.toList = [120, 121, 122] := by decide +kernel
  rw [e]
  refine ⟨120 + j, ?_, ?_⟩
  · have : ∀ j : Fin 3, atI ([120, 121, 122] : List Nat) ((j.1 : Nat) : Int) = some (120 + j.1) := by decide +kernel
    exact this ⟨j, hj⟩
  · unfold signB
    rw [decide_eq_true (by omega), decide_eq_true (by omega)]
    rfl
def spDd : Sp := fun vs H Q _ => ∃ (b g w lv nd : Addr) (ms : List Me) (h : Nat) (ls : List Lf) (ns : List Nd), vs = [.ref b, .ref w] ∧ BoxAt H b g ∧ Wd H w lv nd ms h ls ns ∧ DrT h ls ns ∧ ∀ H' t x, BL [b] H H' → BoxAt H' b g → DeedAt b H' t x → Q (.ref t) H'
section
variable {P : Program} {w : World} {K : PySem.W.Frag} {mg : Str → Option Value} {base : Heap}
abbrev nDd : List Str := ["box", "w", "kind", "leaf", "some", "name", "locks", "k"]
theorem scDd : FnScope nDd ["box", "w"] (defScope sDd) := ⟨rfl, rfl, rfl, by decide +kernel, rfl, by decide +kernel, by decide +kernel⟩
theorem ok_dd {f : Addr} {fd : FuncData} {k : Nat} (F : Fun K "_law_deed" "_law_deed" sDd f fd) (T : Tx mg) (cD : Cal P w K mg base (k + 5) "_law_draw" ["box", "menu"] spDraw) (cN : Cal P w K mg base (k + 5) "_law_name" ["box"] spName) (cL : Cal P w K mg base (k + 5) "_law_lock" ["box"] spLock) (cO : Cal P w K mg base (k + 5) "_law_odd" ["box"] spOd) : FnOk P w K mg base CX0 (k + 6) f fd ["box", "w"] spDd := by
  refine F.ok scDd (fun vs H Q E h => ?_) (fun cdv A outer s H vs Q E hr h => ?_)
  · obtain ⟨b, g, w, lv, nd, ms, h, ls, ns, rfl, _⟩ := h
    rfl
  · obtain ⟨b, g, w, lv, nd, ms, h, ls, ns, rfl, hB, W, d, q⟩ := h
    refine ⟨_, (pss_cons (ps_set (i := 2) scDd.nd rfl (Or.inl rfl) (pe_c cD hr (by omega) (by rfl) (pa_cons (pv 0) (pa_cons pe_int pa_nil)))) (pss_cons (ps_setLc (own := [("leaf", 3)]) (i := 4) (g := gName 3) (te := tVar 3) (tt := tTest (tOp rNotN (tOp (rIxL K) (tDGet (tVar 1) (tC (.str "leaves"))) (tVar 3)) (tC .non))) rfl scDd.nd rfl rfl (sw_true rfl rfl rfl (by decide +kernel)) (pi_range1 (by rfl) T.range_ (pa_cons (pe_callB call_len_seq (by rfl) T.len_ PySem.boot_len (pa_cons (pe_dget (u1 hr) (pv 1) pe_str (fun _ _ => rfl)) pa_nil)) pa_nil)) (blkOk_by (N := nDd) (sc := defScope sDd) (by decide +kernel)) (fun _ _ _ _ _ => pg_name (i := 3) scDd.nd rfl (Or.inl rfl)) (fun _ _ _ _ _ => (pts_one (pt_cmpR op_notN (pe_ix ix_list (pe_dget (u1 hr) (pv 1) pe_str (fun _ _ => rfl)) (pv 3) (fun _ _ => rfl)) pe_non (nomark _)))) (fun _ _ _ _ _ => (pv 3))) (pss_cons (ps_set (i := 3) scDd.nd rfl (Or.inl rfl) (pe_ifExp (pt_cmpR op_gt (pe_callB call_len_seq (by rfl) T.len_ PySem.boot_len (pa_cons (pv 4) pa_nil)) pe_int (nomark _)) (pe_ix ix_list (pv 4) (pe_c cD hr (by omega) (by rfl) (pa_cons (pv 0) (pa_cons (pe_callB call_len_seq (by rfl) T.len_ PySem.boot_len (pa_cons (pv 4) pa_nil)) pa_nil))) (fun _ _ => rfl)) pe_int)) (pss_cons (ps_if (pt_or (pt_cmpR op_lt (pv 2) pe_int (nomark _)) (pw_or1 (pt_cmpR op_eq (pe_callB call_len_seq (by rfl) T.len_ PySem.boot_len (pa_cons (pv 4) pa_nil)) pe_int (nomark _)))) (pss_cons (ps_set (i := 5) scDd.nd rfl (Or.inl rfl) (pe_op op_add_str (pe_c cN hr (by omega) (by rfl) (pa_cons (pv 0) pa_nil)) (pe_ix ix_str pe_str (pe_c cD hr (by omega) (by rfl) (pa_cons (pv 0) (pa_cons pe_int pa_nil))) (fun _ _ => rfl)))) (pss_cons (ps_if (pt_and (pt_cmpR op_gt (pe_callB call_len_seq (by rfl) T.len_ PySem.boot_len (pa_cons (pv 4) pa_nil)) pe_int (nomark _)) (pw_and1 (pt_cmpR op_eq (pe_c cD hr (by omega) (by rfl) (pa_cons (pv 0) (pa_cons pe_int pa_nil))) pe_int (nomark _)))) (pss_one (ps_set (i := 5) scDd.nd rfl (Or.inl rfl) (pe_ix ix_tup (pe_ix ix_list (pe_dget (u1 hr) (pv 1) pe_str (fun _ _ => rfl)) (pv 3) (fun _ _ => rfl)) pe_int (fun _ _ => rfl)))) pss_nil) (pss_cons (ps_set (i := 5) scDd.nd rfl (Or.inl rfl) (pe_ifExp (pt_cmpR op_eq (pe_c cD hr (by omega) (by rfl) (pa_cons (pv 0) (pa_cons pe_int pa_nil))) pe_int (nomark _)) (pe_c cO hr (by omega) (by rfl) (pa_cons (pv 0) pa_nil)) (pe_slice sl_str (pv 5) po_none (po_some pe_int)))) (pss_one (ps_ret (pe_tup (pa_cons pe_str (pa_cons (pv 5) (pa_cons (pe_ifExp (pt_cmpR op_eq (pe_c cD hr (by omega) (by rfl) (pa_cons (pv 0) (pa_cons pe_int pa_nil))) pe_int (nomark _)) (pe_c cO hr (by omega) (by rfl) (pa_cons (pv 0) pa_nil)) (pe_c cL hr (by omega) (by rfl) (pa_cons (pv 0) pa_nil))) pa_nil))))))))) pss_nil) (pss_cons (ps_set (i := 3) scDd.nd rfl (Or.inl rfl) (pe_ifExp (pt_cmpR op_eq (pe_c cD hr (by omega) (by rfl) (pa_cons (pv 0) (pa_cons pe_int pa_nil))) pe_int (nomark _)) (pe_ix ix_list (pe_lst (pa_cons (pe_c cO hr (by omega) (by rfl) (pa_cons (pv 0) pa_nil)) (pa_cons (pe_callB call_len_seq (by rfl) T.len_ PySem.boot_len (pa_cons (pe_dget (u1 hr) (pv 1) pe_str (fun _ _ => rfl)) pa_nil)) (pa_cons (pe_c cD hr (by omega) (by rfl) (pa_cons (pv 0) (pa_cons (pe_callB call_len_seq (by rfl) T.len_ PySem.boot_len (pa_cons (pe_dget (u1 hr) (pv 1) pe_str (fun _ _ => rfl)) pa_nil)) pa_nil))) pa_nil)))) (pe_c cD hr (by omega) (by rfl) (pa_cons (pv 0) (pa_cons pe_int pa_nil))) (fun _ _ => rfl)) (pv 3))) (pss_cons (ps_if (pt_cmpR op_lt (pv 2) pe_int (nomark _)) (pss_one (ps_ret (pe_tup (pa_cons pe_str (pa_cons (pv 3) pa_nil))))) pss_nil) (pss_cons (ps_set (i := 6) scDd.nd rfl (Or.inl rfl) (pe_tupleOf (by rfl) T.tuple_ (pe_lc (own := [("k", 7)]) (g := gName 7) (te := tCall spLock [] E0 (tCons (tVar 0) tNil)) rfl scDd.nd (pi_range1 (by rfl) T.range_ (pa_cons (pe_op op_add (pe_dget (u1 hr) (pv 1) pe_str (fun _ _ => rfl)) pe_int) pa_nil)) (blkOk_by (N := nDd) (sc := defScope sDd) (by decide +kernel)) (fun _ _ _ _ _ => pg_name (i := 7) scDd.nd rfl (Or.inl rfl)) (fun _ _ _ _ _ => pts_nil) (fun _ _ _ _ _ => (pe_c cL hr (by omega) (by rfl) (pa_cons (pv 0) pa_nil)))))) (pss_cons (ps_if (pt_cmpR op_eq (pe_c cD hr (by omega) (by rfl) (pa_cons (pv 0) (pa_cons pe_int pa_nil))) pe_int (nomark _)) (pss_one (ps_set (i := 6) scDd.nd rfl (Or.inl rfl) (pe_ix ix_list (pe_lst (pa_cons (pe_op op_catA (pv 6) (pe_tup (pa_cons pe_int pa_nil))) (pa_cons (pe_slice sl_tupA (pv 6) (po_some pe_int) po_none) (pa_cons (pe_callTy call_list_of (by rfl) T.list_ (by decide +kernel) (pa_cons (pv 6) pa_nil)) (pa_cons (pe_op op_catA (pe_slice sl_tupA (pv 6) (po_some pe_int) po_none) (pe_tup (pa_cons (pe_c cO hr (by omega) (by rfl) (pa_cons (pv 0) pa_nil)) pa_nil))) (pa_cons pe_non pa_nil)))))) (pe_c cD hr (by omega) (by rfl) (pa_cons (pv 0) (pa_cons pe_int pa_nil))) (fun _ _ => rfl)))) pss_nil) (pss_one (ps_ret (pe_tup (pa_cons pe_str (pa_cons (pv 3) (pa_cons (pv 6) pa_nil)))))))))))))), ?_⟩
    have h8 := d.h8
    have l256 := d.l256
    refine ⟨_, rfl, b, g, 10, rfl, hB, by decide, by decide, fun G1 kd bl1 hB1 k0 k1 => ?_⟩
    have W1 := W.box hB bl1
    obtain ⟨vs, e1, e2⟩ := W1.lv
    have hvs := Paired.len e2
    dsimp only [gName]
    refine ⟨_, rfl, w, _, rfl, wx_l W1.w, lv, vs, rfl, .inl (SqL.of e1), _, rfl, by omega, by omega, fun D nD => ?_⟩
    have elen : ((vs.length : Nat) : Int).toNat = ls.length := by omega
    rw [elen]
    refine lcF (walk_range (lo := 0)) (fun i => if (ls.getD i none).isSome = true then some (V.int (i : Nat)) else none) (Nat.lt_of_le_of_lt l256 (by decide)) nD (fun _ _ => trivial) ?_ ?_
    · rintro i y G2 G3 Q' N' hi sm ⟨rfl, hy⟩ hq' hn'
      obtain rfl : y = .int ((i : Nat) : Int) := hy.trans (congrArg V.int (by omega))
      obtain ⟨x, hx⟩ : ∃ x, ls[i]? = some x := ⟨_, List.getElem?_eq_getElem hi⟩
      obtain ⟨v, hv, hr⟩ := Paired.at e2 hx
      have ex : ls.getD i none = x := by rw [List.getD_eq_getElem?_getD, hx]; rfl
      rw [ex] at hq' hn'
      refine ⟨rfl, _, rfl, w, _, rfl, wx_l (sm _ _ W1.w), _, rfl, lv, vs, _, v, rfl, rfl, .of (sm _ _ e1), atI_nat hv, ?_⟩
      refine ⟨rfl, _, rfl, ?_⟩
      rw [nonN, lf_non hr]
      cases x with
      | none => exact iteF (hn' rfl _ (Same.refl _))
      | some z => exact iteT ⟨_, rfl, hq' _ rfl _ (Same.refl _)⟩
    intro G2 s2 hD2
    rw [fm_filter] at hD2
    have hD2 : G2 D = some (.lst (nN (sN ls))) := hD2
    have nDb : D ≠ b := hB1.nb nD
    have bl2 : BL [b] H G2 := bl1.trans (.same s2)
    have hB2 := hB1.same s2
    clear e1 e2
    dsimp only [gName]
    have hB0 := hB
    have W0 := W
    refine seq_use (t := tAsg _ _) (fun σ G => ∃ n : Nat, σ = [some (.ref b), some (.ref w), some (.int kd), some (.int (n : Nat)), some (.ref D), none, none, none] ∧ BL [b] H G ∧ BoxAt G b g ∧ G D = some (.lst (nN (sN ls))) ∧ n ≤ 256 ∧ (sN ls ≠ [] → ∃ p, ls[n]? = some (some p))) ?_ (fun hrest => ?_)
    · rintro σ G ⟨n, rfl, bl, hB, hD, n256, hn⟩
      have tkb : ∀ {G1 : Hp}, BL [b] H G1 → Wd G1 w lv nd ms h ls ns := fun bl => W0.box hB0 bl
      refine seq_use (t := tIfS _ _ _) (fun σ G' => σ = [some (.ref b), some (.ref w), some (.int kd), some (.int (n : Nat)), some (.ref D), none, none, none] ∧ G' = G ∧ sN ls ≠ []) ?_ (fun hrest => ?_)
      · rintro σ G' ⟨rfl, rfl, hne⟩
        refine seq_use (t := tAsg _ _) (fun σ G1 => ∃ v, σ = [some (.ref b), some (.ref w), some (.int kd), some v, some (.ref D), none, none, none] ∧ BL [b] H G1 ∧ BoxAt G1 b g ∧ Thg b G1 v) ?_ (fun hrest => ?_)
        · rintro σ G1 ⟨v, rfl, bl1, hB1, tv⟩
          refine seq_use (t := tIfS _ _ _) (fun σ G2 => σ = [some (.ref b), some (.ref w), some (.int kd), some v, some (.ref D), none, none, none] ∧ G2 = G1) ?_ (fun hrest2 => ?_)
          · rintro σ G2 ⟨rfl, rfl⟩
            refine seq_use (t := tAsg _ _) (fun σ G2 => ∃ (a0 : Addr) (ks : List Int), σ = [some (.ref b), some (.ref w), some (.int kd), some v, some (.ref D), none, some (.ref a0), none] ∧ BL [b] H G2 ∧ BoxAt G2 b g ∧ Thg b G2 v ∧ G2 a0 = some (.tup (ks.map V.int)) ∧ ks.length = h + 1 ∧ ∀ x ∈ ks, 0 ≤ x ∧ x ≤ maxI) ?_ (fun hrest2 => ?_)
            · rintro σ G2 ⟨a0, ks, rfl, bl2, hB2, tv2, ha0, hkl, hks⟩
              refine seq_use (t := tIfS _ _ _) (fun σ G3 => ∃ lk, σ = [some (.ref b), some (.ref w), some (.int kd), some v, some (.ref D), none, some lk, none] ∧ BL [b] H G3 ∧ BoxAt G3 b g ∧ Thg b G3 v ∧ Thg b G3 lk) ?_ (fun hrest3 => ?_)
              · rintro σ G3 ⟨lk, rfl, bl3, hB3, tv3, tl3⟩
                refine ⟨_, rfl, _, rfl, by show 3 ≤ sizeLine; decide, fun t nt => ?_⟩
                have u := same_upd (o := HO.tup [.str "renewed", v, lk]) nt
                exact q _ t (.rn v lk) (bl3.trans (.same u)) (hB3.same u) ⟨upd_same, tv3.same u, tl3.same u⟩
              · refine ⟨_, rfl, b, g, 5, rfl, hB2, by decide, by decide, fun G4 r bl4 hB4 r0 r1 => ⟨rfl, _, rfl, ?_⟩⟩
                have tv4 := tv2.bl bl4
                have ha4 := (hB2.tk bl4).1 _ _ ha0
                have kt : ∀ {G : Hp}, ∀ x ∈ ks.map V.int, Thg b G x := fun x hx => by
                  obtain ⟨i, hi, rfl⟩ := List.mem_map.mp hx
                  exact .int _ (hks i hi).2
                have tl4 : Thg b G4 (.ref a0) := .tup ha4 (hB4.nk _ (by rw [ha4]; simp) (by rw [ha4]; simp)) (by rw [List.length_map]; omega) kt
                refine ite2 (fun _ => ?_) (fun _ => hrest3 _ _ ⟨_, rfl, bl2.trans bl4, hB4, tv4, tl4⟩)
                have cl : (cutV (ks.map V.int) (some 1) none).length ≤ 9 := by
                  unfold cutV
                  rw [List.length_take, List.length_drop, List.length_map]
                  omega
                have ct : ∀ {G : Hp}, ∀ x ∈ cutV (ks.map V.int) (some 1) none, Thg b G x := fun x hx => kt x (List.mem_of_mem_drop (List.mem_of_mem_take hx))
                refine ⟨_, rfl, by show 1 ≤ sizeLine; decide, fun p1 np1 => ?_⟩
                have u1 := same_upd (o := HO.tup [.int 1]) np1
                refine catA_ref (u1 _ _ ha4) upd_same (by rw [List.length_map]; exact Nat.le_trans (show ks.length + 1 ≤ 10 by omega) (by decide)) fun c1 G5 s5 h5 => ?_
                have s45 := u1.trans s5
                refine ⟨_, rfl, _, rfl, ?_⟩
                dsimp only [tNoPart]
                refine slc_ref (s45 _ _ ha4) fun c2 G6 s6 h6 => ?_
                refine ⟨_, rfl, a0, ks.map V.int, rfl, .inr (.of ((s45.trans s6) _ _ ha4)), fun l3 nl3 => ?_⟩
                have u7 := same_upd (o := HO.lst (ks.map V.int)) nl3
                have s47 := (s45.trans s6).trans u7
                have h37 := upd_same (H := G6) (a := l3) (o := HO.lst (ks.map V.int))
                have h57 := u7 _ _ (s6 _ _ h5)
                have h67 := u7 _ _ h6
                have ha7 := s47 _ _ ha4
                generalize upd G6 l3 (.lst (ks.map V.int)) = G7 at *
                have hB7 := hB4.same s47
                have nl3b : l3 ≠ b := hB7.nk _ (by rw [h37]; simp) (by rw [h37]; simp)
                refine ⟨_, rfl, _, rfl, ?_⟩
                dsimp only [tNoPart]
                refine slc_ref ha7 fun c4 G8 s8 h8' => ?_
                have hB8 := hB7.same s8
                refine ⟨_, rfl, b, g, rfl, hB8, fun G9 v9 bl9 hB9 t9 _ => ⟨by show 1 ≤ sizeLine; decide, fun p9 np9 => ?_⟩⟩
                have tk9 := hB8.tk bl9
                have u9 := same_upd (o := HO.tup [v9]) np9
                refine catA_ref (u9 _ _ (tk9.1 _ _ h8')) upd_same (Nat.le_trans (show (cutV (ks.map V.int) (some 1) none).length + 1 ≤ 10 by omega) (by decide)) fun c5 G10 s10 h10 => ?_
                have hB10 := (hB9.same u9).same s10
                have st : ∀ {p xs}, G7 p = some (.tup xs) → G10 p = some (.tup xs) := fun e => s10 _ _ (u9 _ _ (tk9.1 _ _ (s8 _ _ e)))
                have e1 := st h57
                have e2 := st h67
                have e3 := s10 _ _ (u9 _ _ (bl9 _ _ (by simpa using nl3b) (s8 _ _ h37)))
                refine ⟨by show 5 ≤ sizeLine; decide, fun L nL => ?_⟩
                have uL := same_upd (o := HO.lst [.ref c1, .ref c2, .ref l3, .ref c5, .non]) nL
                have hB11 := hB10.same uL
                have tt9 : Thg b G10 v9 := (t9.same u9).same s10
                have tall : ∀ x ∈ [V.ref c1, .ref c2, .ref l3, .ref c5, .non], Thg b G10 x := fun x hx => by
                  simp only [List.mem_cons, List.not_mem_nil, or_false] at hx
                  rcases hx with rfl | rfl | rfl | rfl | rfl
                  · refine .tup e1 (hB10.nk _ (by rw [e1]; simp) (by rw [e1]; simp)) (by rw [List.length_append, List.length_map]; simp; omega) fun x hx => ?_
                    rcases List.mem_append.mp hx with hx | hx
                    · exact kt x hx
                    · rw [List.mem_singleton.mp hx]; exact .int 1 (by decide)
                  · exact .tup e2 (hB10.nk _ (by rw [e2]; simp) (by rw [e2]; simp)) (by omega) ct
                  · exact .lst e3 nl3b
                  · refine .tup h10 (hB10.nk _ (by rw [h10]; simp) (by rw [h10]; simp)) (by rw [List.length_append]; simp; omega) fun x hx => ?_
                    rcases List.mem_append.mp hx with hx | hx
                    · exact ct x hx
                    · rw [List.mem_singleton.mp hx]; exact tt9
                  · exact .non
                refine ⟨_, rfl, b, g, 5, rfl, hB11, by decide, by decide, fun G12 r12 bl12 hB12 r120 r121 => ?_⟩
                have hL := bl12 _ _ (by simpa using hB10.nb nL) (upd_same (H := G10) (a := L) (o := HO.lst [.ref c1, .ref c2, .ref l3, .ref c5, .non]))
                obtain ⟨j8, rfl⟩ : ∃ j : Nat, r12 = j := ⟨r12.toNat, by omega⟩
                have hj8 : j8 < [V.ref c1, .ref c2, .ref l3, .ref c5, .non].length := by show j8 < 5; omega
                have s49 := (s47.trans s8)
                have blf := ((((bl2.trans bl4).trans (.same s49)).trans bl9).trans (.same ((u9.trans s10).trans uL))).trans bl12
                exact ⟨L, _, _, _, rfl, rfl, .of hL, atI_nat (List.getElem?_eq_getElem hj8), hrest3 _ _ ⟨_, rfl, blf, hB12, (((tv4.same s49).bl bl9).same ((u9.trans s10).trans uL)).bl bl12, ((tall _ (List.getElem_mem hj8)).same uL).bl bl12⟩⟩
            · have W1 := tkb bl1
              refine ⟨_, rfl, w, _, rfl, wx_h W1.w, _, _, rfl, rfl, _, rfl, by omega, by omega, fun D2 nD2 => ?_⟩
              have nD2b := hB1.nb nD2
              refine lcB (walk_range (lo := 0)) (fun i acc => ∃ ks : List Int, acc = ks.map V.int ∧ ks.length = i ∧ ∀ x ∈ ks, 0 ≤ x ∧ x ≤ maxI) (Nat.lt_of_le_of_lt (show (((h : Nat) : Int) + 1).toNat ≤ 9 by omega) (by decide)) nD2 hB1 (fun _ _ _ => trivial) ⟨[], rfl, rfl, by simp⟩ ?_ ?_
              · rintro i x G3 G4 Q' N' acc hi bl3 hB3 ⟨ks, rfl, hlen, hks⟩ ⟨rfl, rfl⟩ hq _
                refine ⟨rfl, ?_⟩
                show tCall spLock [] E0 (tCons (tVar 0) tNil) _ _ _
                refine ⟨_, rfl, b, g, rfl, hB3, fun G5 r bl5 hB5 r0 r1 => hq _ _ bl5 hB5 ⟨ks ++ [r], by rw [List.map_append]; rfl, by rw [List.length_append, hlen]; rfl, fun y hy => ?_⟩⟩
                rcases List.mem_append.mp hy with z | z
                · exact hks y z
                · rw [List.mem_singleton.mp z]
                  exact ⟨r0, r1⟩
              · rintro G3 acc bl3 hB3 hD3 ⟨ks, rfl, hlen, hks⟩ _
                have hk1 : ks.length = h + 1 := by omega
                refine .inl ⟨D2, _, rfl, .of hD3, fun tn ntn => ?_⟩
                have u := same_upd (o := HO.tup (ks.map V.int)) ntn
                exact hrest2 _ _ ⟨tn, ks, rfl, (bl1.trans bl3).trans (.same u), hB3.same u, (tv.bl bl3).same u, upd_same, hk1, hks⟩
          · refine ⟨_, rfl, _, _, rfl, rfl, _, rfl, ?_⟩
            refine ite2 (fun _ => ?_) (fun _ => ?_)
            · refine ⟨_, rfl, by show 2 ≤ sizeLine; decide, fun t nt => ?_⟩
              have u := same_upd (o := HO.tup [.str "without", v]) nt
              exact q _ t (.wo v) (bl1.trans (.same u)) (hB1.same u) ⟨upd_same, tv.same u⟩
            · exact hrest2 _ _ ⟨rfl, rfl⟩
        · refine ⟨_, rfl, b, g, 5, rfl, hB, by decide, by decide, fun G4 r bl4 hB4 r0 r1 => ⟨rfl, _, rfl, ?_⟩⟩
          refine ite2 (fun _ => ?_) (fun _ => ?_)
          · refine ⟨_, rfl, b, g, rfl, hB4, fun G5 v5 bl5 hB5 t5 _ => ?_⟩
            have W5 := tkb ((bl.trans bl4).trans bl5)
            obtain ⟨vs, e1, e2⟩ := W5.lv
            have hvs := Paired.len e2
            refine ⟨_, rfl, w, _, rfl, wx_l W5.w, lv, vs, rfl, .inl (SqL.of e1), ?_⟩
            refine ⟨_, rfl, _, rfl, w, _, rfl, wx_l W5.w, lv, vs, rfl, .inl (SqL.of e1), ?_⟩
            have l1 : 1 ≤ ls.length := by rw [d.ll]; exact Nat.one_le_two_pow
            refine ⟨b, g, _, rfl, hB5, by omega, Nat.lt_of_le_of_lt (show ((vs.length : Nat) : Int).natAbs ≤ 256 by omega) (by decide), fun G6 r6 bl6 hB6 r60 r61 => ?_⟩
            refine ⟨by show 3 ≤ sizeLine; decide, fun L nL => ?_⟩
            have u := same_upd (o := HO.lst [v5, .int (vs.length : Nat), .int r6]) nL
            have hB7 := hB6.same u
            refine ⟨_, rfl, b, g, 3, rfl, hB7, by decide, by decide, fun G8 r8 bl8 hB8 r80 r81 => ?_⟩
            have hL8 := bl8 _ _ (by simpa using hB6.nb nL) (upd_same (H := G6) (a := L) (o := HO.lst [v5, .int (vs.length : Nat), .int r6]))
            have hbl := ((((bl.trans bl4).trans bl5).trans bl6).trans (.same u)).trans bl8
            have t8 : ∀ x ∈ [v5, .int (vs.length : Nat), .int r6], Thg b G8 x := fun x hx => by
              simp only [List.mem_cons, List.not_mem_nil, or_false] at hx
              rcases hx with rfl | rfl | rfl
              · exact (((t5.bl bl6).same u).bl bl8)
              · exact .int _ (Int.le_trans (show ((vs.length : Nat) : Int) ≤ 256 by omega) (by decide))
              · exact .int _ (Int.le_trans (show r6 ≤ 256 by omega) (by decide))
            obtain ⟨j8, rfl⟩ : ∃ j : Nat, r8 = j := ⟨r8.toNat, by omega⟩
            have hj8 : j8 < [v5, V.int (vs.length : Nat), .int r6].length := by show j8 < 3; omega
            exact ⟨L, _, _, _, rfl, rfl, .of hL8, atI_nat (List.getElem?_eq_getElem hj8), hrest _ _ ⟨_, rfl, hbl, hB8, t8 _ (List.getElem_mem hj8)⟩⟩
          · exact ⟨_, rfl, hrest _ _ ⟨_, rfl, bl.trans bl4, hB4, .int _ (Int.le_trans (show ((n : Nat) : Int) ≤ 256 by omega) (by decide))⟩⟩
      · refine tt_use (t := tOr _ _) (fun c G' => G' = G ∧ (c = false → sN ls ≠ [])) ?_ ?_
        · rintro c G' ⟨rfl, hc⟩
          cases c with
          | false => exact iteF (hrest _ _ ⟨rfl, rfl, hc rfl⟩)
          | true =>
            refine iteT ?_
            refine seq_use (t := tAsg _ _) (fun σ G1 => ∃ z, σ = [some (.ref b), some (.ref w), some (.int kd), some (.int (n : Nat)), some (.ref D), some (.str z), none, none] ∧ BL [b] H G1 ∧ BoxAt G1 b g ∧ G1 D = some (.lst (nN (sN ls))) ∧ wid z) ?_ (fun hrest2 => ?_)
            · rintro σ G1 ⟨z, rfl, bl1, hB1, hD1, hz⟩
              refine seq_use (t := tIfS _ _ _) (fun σ G1 => ∃ z, σ = [some (.ref b), some (.ref w), some (.int kd), some (.int (n : Nat)), some (.ref D), some (.str z), none, none] ∧ BL [b] H G1 ∧ BoxAt G1 b g ∧ wid z) ?_ (fun hrest2 => ?_)
              · rintro σ G2 ⟨z, rfl, bl2, hB2, hz⟩
                refine seq_use (t := tAsg _ _) (fun σ G1 => ∃ v y4, σ = [some (.ref b), some (.ref w), some (.int kd), some (.int (n : Nat)), y4, some v, none, none] ∧ BL [b] H G1 ∧ BoxAt G1 b g ∧ Thg b G1 v ∧ TmS v) ?_ (fun hrest3 => ?_)
                · rintro σ G3 ⟨v, y4, rfl, bl3, hB3, tv, tm⟩
                  refine ⟨_, rfl, ?_⟩
                  refine te_use (t := tIf _ _ _) (fun l G4 => BL [b] G3 G4 ∧ BoxAt G4 b g ∧ Thg b G4 l) ?_ ?_
                  · rintro l G4 ⟨bl4, hB4, tl⟩
                    refine ⟨by show 3 ≤ sizeLine; decide, fun t nt => ?_⟩
                    have u := same_upd (o := HO.tup [.str "with", v, l]) nt
                    exact q _ t (.wi v l) ((bl3.trans bl4).trans (.same u)) (hB4.same u) ⟨upd_same, (tv.bl bl4).same u, tl.same u, tm⟩
                  · intro hk
                    refine ⟨_, rfl, b, g, 9, rfl, hB3, by decide, by decide, fun G4 r bl4 hB4 r0 r1 => ⟨rfl, _, rfl, ?_⟩⟩
                    refine ite2 (fun _ => ?_) (fun _ => ?_)
                    · exact ⟨_, rfl, b, g, rfl, hB4, fun G5 v5 bl5 hB5 t5 _ => hk _ _ ⟨bl4.trans bl5, hB5, t5⟩⟩
                    · exact ⟨_, rfl, b, g, rfl, hB4, fun G5 v5 bl5 hB5 i0 i1 => hk _ _ ⟨bl4.trans bl5, hB5, .int _ i1⟩⟩
                · refine ⟨_, rfl, b, g, 9, rfl, hB2, by decide, by decide, fun G4 r bl4 hB4 r0 r1 => ⟨rfl, _, rfl, ?_⟩⟩
                  refine ite2 (fun _ => ?_) (fun _ => ?_)
                  · exact ⟨_, rfl, b, g, rfl, hB4, fun G5 v5 bl5 hB5 t5 tm5 => hrest3 _ _ ⟨v5, _, rfl, (bl2.trans bl4).trans bl5, hB5, t5, tm5⟩⟩
                  · have hw := wid_cut hz
                    have hl := (word_len hw).2.1
                    refine ⟨_, rfl, _, rfl, z, rfl, Nat.le_trans hz.2.1 (by decide), hrest3 _ _ ⟨_, _, rfl, bl2.trans bl4, hB4, .str _ (Nat.le_trans hl (by decide)), fun y e => .inl ?_⟩⟩
                    rw [← V.str.inj e]
                    exact hw
              · refine tt_use (t := tAnd _ _) (fun c G2 => BL [b] H G2 ∧ BoxAt G2 b g ∧ (c = true → sN ls ≠ [])) ?_ ?_
                · rintro c G2 ⟨bl2, hB2, hc⟩
                  cases c with
                  | false => exact iteF (hrest2 _ _ ⟨z, rfl, bl2, hB2, hz⟩)
                  | true =>
                    obtain ⟨p, hp⟩ := hn (hc rfl)
                    have W2 := tkb bl2
                    obtain ⟨vs, e1, e2⟩ := W2.lv
                    obtain ⟨x0, hx0, r0⟩ := Paired.at e2 hp
                    obtain ⟨pa, rfl, hpa0⟩ := r0
                    exact iteT ⟨_, rfl, w, _, rfl, wx_l W2.w, _, rfl, lv, vs, _, .ref pa, rfl, rfl, .of e1, atI_nat hx0, pa, _, _, .str p.1, rfl, rfl, .of hpa0, atI_nat (j := 0) rfl, hrest2 _ _ ⟨p.1, rfl, bl2, hB2, wid_word (d.gl _ (List.mem_of_getElem? hp) p.1 p.2 rfl).1⟩⟩
                · intro hk
                  refine ⟨_, rfl, D, _, rfl, .inl (SqL.of hD1), _, _, rfl, rfl, _, rfl, ?_⟩
                  rw [nN_len]
                  by_cases h0 : (sN ls).length = 0
                  · rw [decide_eq_false (by omega)]
                    exact iteF (hk _ _ ⟨bl1, hB1, fun e => by cases e⟩)
                  · rw [decide_eq_true (by omega)]
                    exact iteT ⟨_, rfl, b, g, 9, rfl, hB1, by decide, by decide, fun G4 r bl4 hB4 r0 r1 => ⟨rfl, _, rfl, hk _ _ ⟨bl1.trans bl4, hB4, fun _ e => h0 (by rw [e]; rfl)⟩⟩⟩
            · refine ⟨_, rfl, b, g, rfl, hB, fun G1 z bl1 hB1 hz => ?_⟩
              refine ⟨_, rfl, b, g, 3, rfl, hB1, by decide, by decide, fun G2 r bl2 hB2 r0 r1 => ?_⟩
              obtain ⟨c, hc, hs⟩ := xyz_at r0 r1
              have hl := (word_len hz).2.1
              refine ⟨_, r, c, rfl, rfl, by decide +kernel, hc, z, _, rfl, rfl, Nat.le_trans (show z.length + 1 ≤ 13 by omega) (by decide), hrest2 _ _ ⟨_, rfl, (bl.trans bl1).trans bl2, hB2, bl2 _ _ (by simpa using nDb) (bl1 _ _ (by simpa using nDb) hD), wid_snoc hz hs⟩⟩
        · intro hk
          refine ⟨_, rfl, _, _, rfl, rfl, _, rfl, ?_⟩
          by_cases h5 : kd < 5
          · rw [decide_eq_true h5]
            exact iteT (hk true _ ⟨rfl, fun e => by cases e⟩)
          · rw [decide_eq_false h5]
            refine iteF ⟨_, rfl, D, _, rfl, .inl (SqL.of hD), rfl, _, rfl, hk _ _ ⟨rfl, fun e h0 => ?_⟩⟩
            rw [h0] at e
            simp [nN] at e
    · have hsl := sN_len ls
      refine ⟨_, rfl, D, _, rfl, .inl (SqL.of hD2), _, _, rfl, rfl, _, rfl, ?_⟩
      rw [nN_len]
      by_cases h0 : (sN ls).length = 0
      · rw [decide_eq_false (by omega)]
        exact iteF (hrest _ _ ⟨0, rfl, bl2, hB2, hD2, by omega, fun hne => absurd (List.length_eq_zero_iff.mp h0) hne⟩)
      · rw [decide_eq_true (by omega)]
        refine iteT ⟨_, rfl, _, rfl, _, rfl, D, _, rfl, .inl (SqL.of hD2), ?_⟩
        rw [nN_len]
        refine ⟨b, g, _, rfl, hB2, by omega, Nat.lt_of_le_of_lt (show (((sN ls).length : Nat) : Int).natAbs ≤ 256 by omega) (by decide), fun G3 r bl3 hB3 r0 r1 => ?_⟩
        obtain ⟨j, rfl⟩ : ∃ j : Nat, r = j := ⟨r.toNat, by omega⟩
        have hj : j < (sN ls).length := by omega
        have ej := List.getElem?_eq_getElem hj
        obtain ⟨p, hp⟩ := sN_mem (List.getElem_mem hj)
        generalize (sN ls)[j] = n at *
        have hD3 := bl3 _ _ (by simpa using nDb) hD2
        refine ⟨D, _, _, .int (n : Nat), rfl, rfl, .of hD3, atI_nat (j := j) (by unfold nN; rw [List.getElem?_map, ej]; rfl), hrest _ _ ⟨n, rfl, bl2.trans bl3, hB3, hD3, ?_, fun _ => ⟨p, hp⟩⟩⟩
        have := (List.getElem?_eq_some_iff.mp hp).1
        omega
end
end L2.My
end
section
set_option Elab.async false
set_option linter.all false
set_option maxRecDepth 100000
set_option maxHeartbeats 4000000
/-! _law_due. -/
namespace L2.My
open PySem PySem.Spec PyProof.Rows
abbrev sDue : Stmt := top 50
def strV : V → Str
  | .str z => z
  | _ => ""
abbrev Out := V × Nat × List Lf × List Nd
/-- what a deed gives, what a tree is behind it -/
def outF (H : Hp) (h : Nat) (ls : List Lf) (ns : List Nd) : Dd → Out
  | .wi nm lk => if wordV nm = false then (.str "NoName", h, ls, ns) else if numV lk = false then (.str "NoLock", h, ls, ns) else if strV nm ∈ wds ls then (.str "Named", h, ls, ns)
    else if h = 8 ∧ none ∉ ls then (.str "TreeFull", h, ls, ns)
    else (.int (blankAt (grown h ls).2 : Nat), (grown h ls).1, (grown h ls).2.set (blankAt (grown h ls).2) (some (strV nm, intV lk)), ns.map (addN (blankAt (grown h ls).2)))
  | .wo v => if hasM ls v = true then (.str "done", h, ls.set (iV v) none, ns.filter (offN (iV v))) else (.str "NoLeaf", h, ls, ns)
  | .rn v lk => if hasM ls v = true then match lksV H (h + 1) lk with
      | some ks => (.str "done", h, ls.set (iV v) (some (((ls.getD (iV v) none).getD ("", 0)).1, ks.getD 0 0)), newN (iV v) ks h ns)
      | none => (.str "NoLocks", h, ls, ns)
    else (.str "NoLeaf", h, ls, ns)
theorem leaf_at {ls : List Lf} {j : Nat} {p : Str × Int} (h : ls[j]? = some (some p)) : (ls.getD j none).getD ("", 0) = p := by
  rw [List.getD_eq_getElem?_getD, h]
  rfl
theorem hasM_of {ls : List Lf} {v : V} (h : belowV (ls.length : Int) v = true) {p : Str × Int} (e : ls[iV v]? = some (some p)) : hasM ls v = true := by
  unfold hasM
  rw [h, List.getD_eq_getElem?_getD, e]
  rfl
theorem lksV_tk {b : Addr} {H H' : Hp} {n : Nat} {v : V} (t : Thg b H v) (s : BL [b] H H') : lksV H' n v = lksV H n v := by unfold lksV; rw [tupOf_bl t s]
theorem outF_bl {b : Addr} {H H' : Hp} {h : Nat} {ls : List Lf} {ns : List Nd} {t : Addr} {x : Dd} (dx : DeedAt b H t x) (s : BL [b] H H') : outF H' h ls ns x = outF H h ls ns x := by
  cases x with
  | wi nm lk => rfl
  | wo v => rfl
  | rn v lk =>
    unfold outF
    dsimp only
    rw [lksV_tk dx.2.2 s]
/-- it is a tree -/
theorem outF_ok {b : Addr} {H : Hp} {h : Nat} {ls : List Lf} {ns : List Nd} {t : Addr} {x : Dd} (d : DrT h ls ns) (dx : DeedAt b H t x) : DrT (outF H h ls ns x).2.1 (outF H h ls ns x).2.2.1 (outF H h ls ns x).2.2.2 := by
  have hl1 : 1 ≤ ls.length := by rw [d.ll]; exact Nat.one_le_two_pow
  cases x with
  | wi nm lk =>
    unfold outF
    dsimp only
    split
    · exact d
    rename_i h1
    split
    · exact d
    rename_i h2
    split
    · exact d
    rename_i h3
    split
    · exact d
    rename_i h4
    have h1 : wordV nm = true := by cases e : wordV nm; exact absurd e h1; rfl
    have h2 : numV lk = true := by cases e : numV lk; exact absurd e h2; rfl
    obtain ⟨z, rfl, hz⟩ : ∃ z, nm = .str z ∧ wordB z = true := by
      cases nm with
      | str z => exact ⟨z, rfl, h1⟩
      | _ => cases h1
    obtain ⟨e1, hi0⟩ := num_int h2
    have tl := dx.2.2.1
    rw [e1] at tl
    exact added_ok (grown_ok d h4) (blank_at (grown_mem h hl1)) hz hi0 tl.le (by rw [grown_wds]; exact h3)
  | wo v =>
    unfold outF
    dsimp only
    split
    · rename_i h1
      obtain ⟨j, p, e1, e2, e3⟩ := hasM_at h1
      rw [e2]
      exact gone_ok d e3
    · exact d
  | rn v lk =>
    unfold outF
    dsimp only
    split
    · rename_i h1
      obtain ⟨j, p, e1, e2, e3⟩ := hasM_at h1
      split
      · rename_i ks hks
        rw [e2, leaf_at e3]
        have hk : ∀ k ∈ ks, 0 ≤ k ∧ k ≤ maxI := by
          cases e : tupOf H lk with
          | none => rw [lks_no e] at hks; cases hks
          | some xs =>
            rw [lks_at e] at hks
            split at hks
            · rename_i hh
              obtain ⟨a, _, _, _, hx⟩ := tupOf_sub dx.2.2 e
              obtain rfl := Option.some.inj hks
              intro k hk
              obtain ⟨y, hy, rfl⟩ := List.mem_map.mp hk
              have hn := List.all_eq_true.mp hh.2 y hy
              obtain ⟨e4, e5⟩ := num_int hn
              have ty := hx y hy
              rw [e4] at ty
              exact ⟨e5, ty.le⟩
            · cases hks
        have k0 : 0 ≤ ks.getD 0 0 ∧ ks.getD 0 0 ≤ maxI := by
          rw [List.getD_eq_getElem?_getD]
          cases e : ks[0]? with
          | none => exact ⟨Int.le_refl _, by decide⟩
          | some y => exact hk y (List.mem_of_getElem? e)
        exact new_ok d (z := p.1) (i := p.2) e3 k0.1 k0.2 hk
      · exact d
    · exact d
theorem ne_ww : decide (V.str "without" = V.str "with") = false := decide_eq_false fun e => absurd (V.str.inj e) (by decide +kernel)
theorem ne_rw : decide (V.str "renewed" = V.str "with") = false := decide_eq_false fun e => absurd (V.str.inj e) (by decide +kernel)
theorem ne_rw2 : decide (V.str "renewed" = V.str "without") = false := decide_eq_false fun e => absurd (V.str.inj e) (by decide +kernel)
def spDue : Sp := fun vs H Q _ => ∃ (b w lv nd : Addr) (ms : List Me) (h : Nat) (ls : List Lf) (ns : List Nd) (t : Addr) (x : Dd), vs = [.ref w, .ref t] ∧ Wd H w lv nd ms h ls ns ∧ DrT h ls ns ∧ DeedAt b H t x ∧ b ∉ own w lv nd ms ∧
  ∀ H' nd' ms', BL (own w lv nd ms) H H' → (∀ a ∈ own w lv nd' ms', a ∈ own w lv nd ms ∨ H a = none) → Wd H' w lv nd' ms' (outF H h ls ns x).2.1 (outF H h ls ns x).2.2.1 (outF H h ls ns x).2.2.2 → Q (outF H h ls ns x).1 H'
section
variable {P : Program} {w : World} {K : PySem.W.Frag} {mg : Str → Option Value} {base : Heap}
abbrev nDu : List Str := ["w", "deed", "leaf", "one"]
theorem scDu : FnScope nDu ["w", "deed"] (defScope sDue) := ⟨rfl, rfl, rfl, by decide +kernel, rfl, by decide +kernel, by decide +kernel⟩
theorem ok_due {f : Addr} {fd : FuncData} {k : Nat} (F : Fun K "_law_due" "_law_due" sDue f fd) (T : Tx mg) (cN : Cal P w K mg base (k + 3) "_law_is_name" ["thing"] spIsn) (cU : Cal P w K mg base (k + 3) "_law_is_number" ["thing"] spNumb) (cA : Cal P w K mg base (k + 3) "_law_added" ["w", "name", "lock"] spAdd) (cG : Cal P w K mg base (k + 3) "_law_gone" ["w", "leaf"] spGon) (cW : Cal P w K mg base (k + 3) "_law_new" ["w", "leaf", "locks"] spNew) : FnOk P w K mg base CX0 (k + 4) f fd ["w", "deed"] spDue := by
  refine F.ok scDu (fun vs H Q E h => ?_) (fun cdv A outer s H vs Q E hr h => ?_)
  · obtain ⟨b, w, lv, nd, ms, h, ls, ns, t, x, rfl, _⟩ := h
    rfl
  · obtain ⟨b, w, lv, nd, ms, h, ls, ns, t, x, rfl, W, d, dx, nb, q⟩ := h
    refine ⟨_, (pss_cons (ps_if (pt_cmpR op_eq (pe_ix ix_tup (pv 1) pe_int (fun _ _ => rfl)) pe_str (nomark _)) (pss_cons (ps_if (pt_not (pt_val (pe_c cN hr (by omega) (by rfl) (pa_cons (pe_ix ix_tup (pv 1) pe_int (fun _ _ => rfl)) pa_nil)))) (pss_one (ps_ret pe_str)) pss_nil) (pss_cons (ps_if (pt_not (pt_val (pe_c cU hr (by omega) (by rfl) (pa_cons (pe_ix ix_tup (pv 1) pe_int (fun _ _ => rfl)) pa_nil)))) (pss_one (ps_ret pe_str)) pss_nil) (pss_cons (ps_if (pt_cmpR (op_inD (u65 hr)) (pe_ix ix_tup (pv 1) pe_int (fun _ _ => rfl)) (pe_lc (own := [("one", 3)]) (g := gName 3) (te := tOp (rIxT K) (tVar 3) (tC (.int 0))) (tt := tTest (tOp rNotN (tVar 3) (tC .non))) rfl scDu.nd (pi_list (pe_dget (u1 hr) (pv 0) pe_str (fun _ _ => rfl))) (blkOk_by (N := nDu) (sc := defScope sDue) (by decide +kernel)) (fun _ _ _ _ _ => pg_name (i := 3) scDu.nd rfl (Or.inl rfl)) (fun _ _ _ _ _ => (pts_one (pt_cmpR op_notN (pv 3) pe_non (nomark _)))) (fun _ _ _ _ _ => (pe_ix ix_tup (pv 3) pe_int (fun _ _ => rfl)))) rfl) (pss_one (ps_ret pe_str)) pss_nil) (pss_cons (ps_if (pt_and (pt_cmpR op_eq (pe_dget (u1 hr) (pv 0) pe_str (fun _ _ => rfl)) pe_int (nomark _)) (pw_and1 (pt_cmpR (op_notInD (u65 hr)) pe_non (pe_dget (u1 hr) (pv 0) pe_str (fun _ _ => rfl)) rfl))) (pss_one (ps_ret pe_str)) pss_nil) (pss_one (ps_ret (pe_c cA hr (by omega) (by rfl) (pa_cons (pv 0) (pa_cons (pe_ix ix_tup (pv 1) pe_int (fun _ _ => rfl)) (pa_cons (pe_ix ix_tup (pv 1) pe_int (fun _ _ => rfl)) pa_nil)))))))))) pss_nil) (pss_cons (ps_set (i := 2) scDu.nd rfl (Or.inl rfl) (pe_ix ix_tup (pv 1) pe_int (fun _ _ => rfl))) (pss_cons (ps_if (pt_or (pt_not (pt_val (pe_c cU hr (by omega) (by rfl) (pa_cons (pv 2) pa_nil)))) (pw_or (pt_cmpR op_ge (pv 2) (pe_callB call_len_seq (by rfl) T.len_ PySem.boot_len (pa_cons (pe_dget (u1 hr) (pv 0) pe_str (fun _ _ => rfl)) pa_nil)) (nomark _)) (pw_or1 (pt_cmpR op_isN (pe_ix ix_list (pe_dget (u1 hr) (pv 0) pe_str (fun _ _ => rfl)) (pv 2) (fun _ _ => rfl)) pe_non (nomark _))))) (pss_one (ps_ret pe_str)) pss_nil) (pss_cons (ps_if (pt_cmpR op_eq (pe_ix ix_tup (pv 1) pe_int (fun _ _ => rfl)) pe_str (nomark _)) (pss_cons (ps_expr (pe_c cG hr (by omega) (by rfl) (pa_cons (pv 0) (pa_cons (pv 2) pa_nil)))) (pss_one (ps_ret pe_str))) pss_nil) (pss_cons (ps_if (pt_or (pt_not (pt_val (pe_callB call_isTh (by rfl) T.isi (by decide +kernel) (pa_cons (pe_ix ix_tup (pv 1) pe_int (fun _ _ => rfl)) (pa_cons (pe_bltn (v := .ty "tuple") (u := .type "tuple") (by rfl) T.tuple_ (by decide +kernel) rfl) pa_nil))))) (pw_or (pt_cmpR op_ne (pe_callB call_len_seq (by rfl) T.len_ PySem.boot_len (pa_cons (pe_ix ix_tup (pv 1) pe_int (fun _ _ => rfl)) pa_nil)) (pe_op op_add (pe_dget (u1 hr) (pv 0) pe_str (fun _ _ => rfl)) pe_int) (nomark _)) (pw_or1 (pt_not (pt_val (pe_callB (cr_all rfl) (by rfl) T.all_ (by decide +kernel) (pa_cons (pe_lc (own := [("one", 3)]) (g := gName 3) (te := tCall spNumb [] E0 (tCons (tVar 3) tNil)) rfl scDu.nd (pi_tup (pe_ix ix_tup (pv 1) pe_int (fun _ _ => rfl))) (blkOk_by (N := nDu) (sc := defScope sDue) (by decide +kernel)) (fun _ _ _ _ _ => pg_name (i := 3) scDu.nd rfl (Or.inl rfl)) (fun _ _ _ _ _ => pts_nil) (fun _ _ _ _ _ => (pe_c cU hr (by omega) (by rfl) (pa_cons (pv 3) pa_nil)))) pa_nil))))))) (pss_one (ps_ret pe_str)) pss_nil) (pss_cons (ps_expr (pe_c cW hr (by omega) (by rfl) (pa_cons (pv 0) (pa_cons (pv 2) (pa_cons (pe_ix ix_tup (pv 1) pe_int (fun _ _ => rfl)) pa_nil))))) (pss_one (ps_ret pe_str)))))))), ?_⟩
    have h8 := d.h8
    have l256 := d.l256
    obtain ⟨r, hr0⟩ : ∃ r, outF H h ls ns x = r := ⟨_, rfl⟩
    rw [hr0] at q
    obtain ⟨vs, e1, e2⟩ := W.lv
    have hvs := Paired.len e2
    have same : r = (.str "NoName", h, ls, ns) ∨ r = (.str "NoLock", h, ls, ns) ∨ r = (.str "Named", h, ls, ns) ∨ r = (.str "TreeFull", h, ls, ns) ∨ r = (.str "NoLeaf", h, ls, ns) ∨ r = (.str "NoLocks", h, ls, ns) → ∀ G, Same H G → Q r.1 G := fun e G s => by
      refine q G nd ms (.same s) (fun a ha => .inl ha) ?_
      rcases e with rfl | rfl | rfl | rfl | rfl | rfl <;> exact W.same s
    cases x with
    | wi nm lk =>
      obtain ⟨ht, tn, tl, tm⟩ := dx
      have rd0 : ∀ {G}, Same H G → SqT K G t [.str "with", nm, lk] := fun s => .of (s _ _ ht)
      refine ⟨_, rfl, t, _, _, .str "with", rfl, rfl, rd0 (Same.refl _), atI_nat (j := 0) rfl, rfl, _, rfl, ?_⟩
      rw [decide_eq_true rfl]
      refine iteT ⟨_, rfl, t, _, _, nm, rfl, rfl, rd0 (Same.refl _), atI_nat (j := 1) rfl, b, nm, rfl, tn, tm, _, rfl, ?_⟩
      unfold outF at hr0
      dsimp only at hr0
      cases hw : wordV nm with
      | false =>
        rw [if_pos hw] at hr0
        have := same (.inl hr0.symm) H (Same.refl _)
        rw [← hr0] at this
        exact iteT this
      | true =>
      rw [if_neg (by rw [hw]; exact fun e => Bool.noConfusion e)] at hr0
      refine iteF ⟨_, rfl, t, _, _, lk, rfl, rfl, rd0 (Same.refl _), atI_nat (j := 2) rfl, b, lk, rfl, tl, _, rfl, ?_⟩
      cases hn : numV lk with
      | false =>
        rw [if_pos hn] at hr0
        have := same (.inr (.inl hr0.symm)) H (Same.refl _)
        rw [← hr0] at this
        exact iteT this
      | true =>
      rw [if_neg (by rw [hn]; exact fun e => Bool.noConfusion e)] at hr0
      obtain ⟨z, rfl, hz⟩ : ∃ z, nm = .str z ∧ wordB z = true := by
        cases nm with
        | str z => exact ⟨z, rfl, hw⟩
        | _ => cases hw
      obtain ⟨el, hi0⟩ := num_int hn
      refine iteF ⟨_, rfl, t, _, _, .str z, rfl, rfl, rd0 (Same.refl _), atI_nat (j := 1) rfl, _, rfl, w, _, rfl, wx_l W.w, lv, rfl, ⟨vs, SqL.of e1⟩, fun D nD => ?_⟩
      refine lc_it (walk_list (xs := vs)) (fun i G => Same H G ∧ G D = some (.lst ((wds (ls.take i)).map V.str))) ⟨same_upd nD, upd_same⟩ (fun i G _ hG => SqL.of (hG.1 _ _ e1)) ?_ ?_
      · rintro i y G G' hi ⟨sm, hD⟩ ⟨rfl, hy⟩
        obtain ⟨l, hl, hlf⟩ := Paired.at' e2 hy
        refine ⟨rfl, _, rfl, rfl, _, rfl, ?_⟩
        rw [nonN, lf_non hlf, take_snoc hl]
        cases l with
        | none => exact iteF ⟨sm, by rw [wds_none]; exact hD⟩
        | some p =>
          obtain ⟨xa, rfl, hxa⟩ := hlf
          refine iteT ⟨_, rfl, xa, _, _, .str p.1, rfl, rfl, .of (sm _ _ hxa), atI_nat (j := 0) rfl, _, hD, ?_, same_put sm nD, ?_⟩
          · rw [List.length_map]
            have : (wds (ls.take i)).length ≤ i := by
              unfold wds
              rw [List.length_map]
              exact Nat.le_trans (List.length_filterMap_le _ _) (by rw [List.length_take]; omega)
            exact Nat.lt_of_le_of_lt (show _ ≤ 256 by omega) (by decide)
          · rw [upd_same, wds_some, List.map_append]
            rfl
      rintro G2 ⟨s2, hD⟩
      rw [hvs, List.take_length] at hD
      have W2 := W.same s2
      have e12 := s2 _ _ e1
      have e22 := Paired.mapP e2 fun _ _ r => r.tk (.same s2)
      refine rIn_strs hD hz (wds_word d.gl) ⟨_, rfl, ?_⟩
      by_cases hm : z ∈ wds ls
      · rw [decide_eq_true hm]
        rw [if_pos (show strV (.str z) ∈ wds ls from hm)] at hr0
        have := same (.inr (.inr (.inl hr0.symm))) _ s2
        rw [← hr0] at this
        exact iteT this
      rw [decide_eq_false hm]
      rw [if_neg (show ¬ strV (.str z) ∈ wds ls from hm)] at hr0
      refine iteF ?_
      dsimp only [tNext]
      refine seq_use (t := tIfS _ _ _) (fun σ G => σ = start nDu [V.ref w, .ref t] ∧ Same H G ∧ ¬ (h = 8 ∧ none ∉ ls)) ?_ (fun hrest => ?_)
      · rintro σ G ⟨rfl, s3, hf⟩
        rw [if_neg hf] at hr0
        refine ⟨_, rfl, _, rfl, t, _, _, .str z, rfl, rfl, rd0 s3, atI_nat (j := 1) rfl, _, rfl, t, _, _, lk, rfl, rfl, rd0 s3, atI_nat (j := 2) rfl, w, lv, nd, ms, h, ls, ns, z, intV lk, by rw [← el]; rfl, W.same s3, d, hf, fun G4 ms' b4 ho W4 => ?_⟩
        subst hr0
        exact q G4 nd ms' (fun p o hp e => b4 p o hp (s3 _ _ e)) (fun a ha => .inl (by rw [ho] at ha; exact ha)) W4
      · have nice : Nice (.list (ls.map dLf)) := .lst (.map fun l hl => nice_lf (d.gl l hl))
        have dep : PyData.depth (.list (ls.map dLf)) ≤ 40 := by
          have := dep_lvs ls
          unfold dLvs at this
          simp only [PyData.depth] at this ⊢
          omega
        refine ⟨_, rfl, w, _, rfl, wx_h W2.w, rfl, _, rfl, ?_⟩
        have ed : decide (V.int (h : Nat) = V.int 8) = decide (h = 8) := by
          rw [decide_eq_decide]
          exact ⟨fun e => by have := V.int.inj e; omega, fun e => by rw [e]; rfl⟩
        rw [ed]
        by_cases hh : h = 8
        · rw [decide_eq_true hh]
          refine iteT ⟨_, rfl, w, _, rfl, wx_l W2.w, .none, ls.map dLf, .non, .lst (.of e12) (dp_map e22 fun _ _ r => dpLf r), shaped_of .non (by decide), shaped_of nice dep, _, rfl, ?_⟩
          rw [any_none]
          by_cases hno : none ∈ ls
          · rw [decide_eq_true hno]
            exact iteF (hrest _ _ ⟨rfl, s2, fun z => z.2 hno⟩)
          · rw [decide_eq_false hno]
            rw [if_pos ⟨hh, hno⟩] at hr0
            have := same (.inr (.inr (.inr (.inl hr0.symm)))) _ s2
            rw [← hr0] at this
            exact iteT this
        · rw [decide_eq_false hh]
          exact iteF (hrest _ _ ⟨rfl, s2, fun z => hh z.1⟩)
    | wo v =>
      obtain ⟨ht, tv⟩ := dx
      have rd0 : ∀ {G}, Same H G → SqT K G t [.str "without", v] := fun s => .of (s _ _ ht)
      refine ⟨_, rfl, t, _, _, .str "without", rfl, rfl, rd0 (Same.refl _), atI_nat (j := 0) rfl, rfl, _, rfl, ?_⟩
      rw [ne_ww]
      refine iteF ?_
      dsimp only [tNext]
      refine ⟨_, rfl, t, _, _, v, rfl, rfl, rd0 (Same.refl _), atI_nat (j := 1) rfl, ?_⟩
      dsimp only [gName]
      refine seq_use (t := tIfS _ _ _) (fun σ G => σ = [some (.ref w), some (.ref t), some v, none] ∧ H = G ∧ hasM ls v = true) ?_ (fun hrest => ?_)
      rotate_left
      · have fin : hasM ls v = false → Q (.str "NoLeaf") H := fun hb => by
          unfold outF at hr0
          dsimp only at hr0
          rw [if_neg (by rw [hb]; exact Bool.false_ne_true)] at hr0
          have := same (.inr (.inr (.inr (.inr (.inl hr0.symm))))) H (Same.refl _)
          rw [← hr0] at this
          exact this
        refine ⟨_, rfl, b, v, rfl, tv, _, rfl, ?_⟩
        cases hn : numV v with
        | false =>
          refine iteT (iteT (fin ?_))
          unfold hasM
          cases v with
          | int i =>
            have : ¬ 0 ≤ i := of_decide_eq_false hn
            rw [show belowV (ls.length : Int) (.int i) = false from decide_eq_false fun z => this z.1, Bool.false_and]
          | _ => rfl
        | true =>
          obtain ⟨ev, hv0⟩ := num_int hn
          generalize intV v = i at *
          subst ev
          refine iteF ⟨_, rfl, _, rfl, w, _, rfl, wx_l W.w, lv, vs, rfl, .inl (SqL.of e1), _, _, rfl, rfl, _, rfl, ?_⟩
          by_cases hlt : (vs.length : Int) ≤ i
          · rw [decide_eq_true hlt]
            refine iteT (iteT (fin ?_))
            unfold hasM
            rw [show belowV (ls.length : Int) (.int i) = false from decide_eq_false fun z => by have := z.2; omega, Bool.false_and]
          · rw [decide_eq_false hlt]
            obtain ⟨j, rfl⟩ : ∃ j : Nat, i = j := ⟨i.toNat, by omega⟩
            have hj : j < ls.length := by omega
            obtain ⟨x0, hx0, r0⟩ := Paired.at e2 (List.getElem?_eq_getElem hj)
            have ei : iV (.int (j : Nat)) = j := Int.toNat_natCast j
            have hb0 : hasM ls (.int (j : Nat)) = (ls[j]).isSome := by
              unfold hasM
              rw [ei, List.getD_eq_getElem?_getD, List.getElem?_eq_getElem hj]
              rw [show belowV (ls.length : Int) (.int (j : Nat)) = true from decide_eq_true (show 0 ≤ ((j : Nat) : Int) ∧ ((j : Nat) : Int) < (ls.length : Int) by omega), Bool.true_and]
              rfl
            refine iteF ⟨_, rfl, w, _, rfl, wx_l W.w, _, rfl, lv, vs, _, x0, rfl, rfl, .of e1, atI_nat hx0, rfl, _, rfl, ?_⟩
            have ed : decide (x0 = .non) = !notNon x0 := by rw [← nonN, Bool.not_not]
            rw [ed, lf_non r0, ← hb0]
            cases hb : hasM ls (.int (j : Nat)) with
            | false => exact iteT (fin hb)
            | true => exact iteF (hrest _ _ ⟨rfl, rfl, hb⟩)
      rintro σ G ⟨rfl, rfl, hb⟩
      obtain ⟨j, p, rfl, ej, hj⟩ := hasM_at hb
      unfold outF at hr0
      dsimp only at hr0
      rw [if_pos hb, ej] at hr0
      refine ⟨_, rfl, t, _, _, .str "without", rfl, rfl, rd0 (Same.refl _), atI_nat (j := 0) rfl, rfl, _, rfl, ?_⟩
      rw [decide_eq_true rfl]
      refine iteT ?_
      refine ⟨_, rfl, _, rfl, w, lv, nd, ms, h, ls, ns, j, p, rfl, W, d, hj, fun G4 nd' ms' b4 ho W4 => ?_⟩
      subst hr0
      exact q G4 nd' ms' b4 ho W4
    | rn v lk =>
      obtain ⟨ht, tv, tl⟩ := dx
      have rd0 : ∀ {G}, Same H G → SqT K G t [.str "renewed", v, lk] := fun s => .of (s _ _ ht)
      refine ⟨_, rfl, t, _, _, .str "renewed", rfl, rfl, rd0 (Same.refl _), atI_nat (j := 0) rfl, rfl, _, rfl, ?_⟩
      rw [ne_rw]
      refine iteF ?_
      dsimp only [tNext]
      refine ⟨_, rfl, t, _, _, v, rfl, rfl, rd0 (Same.refl _), atI_nat (j := 1) rfl, ?_⟩
      dsimp only [gName]
      refine seq_use (t := tIfS _ _ _) (fun σ G => σ = [some (.ref w), some (.ref t), some v, none] ∧ H = G ∧ hasM ls v = true) ?_ (fun hrest => ?_)
      rotate_left
      · have fin : hasM ls v = false → Q (.str "NoLeaf") H := fun hb => by
          unfold outF at hr0
          dsimp only at hr0
          rw [if_neg (by rw [hb]; exact Bool.false_ne_true)] at hr0
          have := same (.inr (.inr (.inr (.inr (.inl hr0.symm))))) H (Same.refl _)
          rw [← hr0] at this
          exact this
        refine ⟨_, rfl, b, v, rfl, tv, _, rfl, ?_⟩
        cases hn : numV v with
        | false =>
          refine iteT (iteT (fin ?_))
          unfold hasM
          cases v with
          | int i =>
            have : ¬ 0 ≤ i := of_decide_eq_false hn
            rw [show belowV (ls.length : Int) (.int i) = false from decide_eq_false fun z => this z.1, Bool.false_and]
          | _ => rfl
        | true =>
          obtain ⟨ev, hv0⟩ := num_int hn
          generalize intV v = i at *
          subst ev
          refine iteF ⟨_, rfl, _, rfl, w, _, rfl, wx_l W.w, lv, vs, rfl, .inl (SqL.of e1), _, _, rfl, rfl, _, rfl, ?_⟩
          by_cases hlt : (vs.length : Int) ≤ i
          · rw [decide_eq_true hlt]
            refine iteT (iteT (fin ?_))
            unfold hasM
            rw [show belowV (ls.length : Int) (.int i) = false from decide_eq_false fun z => by have := z.2; omega, Bool.false_and]
          · rw [decide_eq_false hlt]
            obtain ⟨j, rfl⟩ : ∃ j : Nat, i = j := ⟨i.toNat, by omega⟩
            have hj : j < ls.length := by omega
            obtain ⟨x0, hx0, r0⟩ := Paired.at e2 (List.getElem?_eq_getElem hj)
            have ei : iV (.int (j : Nat)) = j := Int.toNat_natCast j
            have hb0 : hasM ls (.int (j : Nat)) = (ls[j]).isSome := by
              unfold hasM
              rw [ei, List.getD_eq_getElem?_getD, List.getElem?_eq_getElem hj]
              rw [show belowV (ls.length : Int) (.int (j : Nat)) = true from decide_eq_true (show 0 ≤ ((j : Nat) : Int) ∧ ((j : Nat) : Int) < (ls.length : Int) by omega), Bool.true_and]
              rfl
            refine iteF ⟨_, rfl, w, _, rfl, wx_l W.w, _, rfl, lv, vs, _, x0, rfl, rfl, .of e1, atI_nat hx0, rfl, _, rfl, ?_⟩
            have ed : decide (x0 = .non) = !notNon x0 := by rw [← nonN, Bool.not_not]
            rw [ed, lf_non r0, ← hb0]
            cases hb : hasM ls (.int (j : Nat)) with
            | false => exact iteT (fin hb)
            | true => exact iteF (hrest _ _ ⟨rfl, rfl, hb⟩)
      rintro σ G ⟨rfl, rfl, hb⟩
      obtain ⟨j, p, rfl, ej, hj⟩ := hasM_at hb
      unfold outF at hr0
      dsimp only at hr0
      rw [if_pos hb, ej] at hr0
      refine ⟨_, rfl, t, _, _, .str "renewed", rfl, rfl, rd0 (Same.refl _), atI_nat (j := 0) rfl, rfl, _, rfl, ?_⟩
      rw [ne_rw2]
      refine iteF ?_
      dsimp only [tNext]
      have fin : lksV H (h + 1) lk = none → ∀ G, Same H G → Q (.str "NoLocks") G := fun hb G s => by
        rw [hb] at hr0
        dsimp only at hr0
        have := same (.inr (.inr (.inr (.inr (.inr hr0.symm))))) G s
        rw [← hr0] at this
        exact this
      refine seq_use (t := tIfS _ _ _) (fun σ G => σ = [some (.ref w), some (.ref t), some (.int (j : Nat)), none] ∧ Same H G ∧ ∃ ka ks, lk = .ref ka ∧ H ka = some (.tup (ks.map V.int)) ∧ ks.length = h + 1 ∧ lksV H (h + 1) lk = some ks) ?_ (fun hrest => ?_)
      · rintro σ G ⟨rfl, s2, ka, ks, rfl, hka, hkl, hk⟩
        rw [hk, leaf_at hj] at hr0
        dsimp only at hr0
        refine ⟨_, rfl, _, rfl, _, rfl, t, _, _, .ref ka, rfl, rfl, rd0 s2, atI_nat (j := 2) rfl, w, lv, nd, ms, h, ls, ns, j, p, ka, ks, rfl, W.same s2, d, hj, .inl (s2 _ _ hka), hkl, fun G4 ms' b4 ho W4 => ?_⟩
        subst hr0
        exact q G4 nd ms' (fun p o hp e => b4 p o hp (s2 _ _ e)) (fun a ha => (ho a ha).imp id fun e => s2.free e) W4
      · obtain ⟨tt, ht2⟩ := tl.th
        refine ⟨_, rfl, t, _, _, lk, rfl, rfl, rd0 (Same.refl _), atI_nat (j := 2) rfl, _, "tuple", tt, rfl, ht2, by decide, _, rfl, ?_⟩
        rcases tup_cases ht2 with ⟨ka, xs, rfl, hka, e, rfl⟩ | ⟨ea, eb⟩
        rotate_left
        · rw [eb]
          exact iteT (iteT (fin (lks_no ea) _ (Same.refl _)))
        obtain ⟨hkl, hks⟩ := tl.sub hka
        rw [lks_at e] at fin hrest
        refine iteF ⟨_, rfl, t, _, _, .ref ka, rfl, rfl, rd0 (Same.refl _), atI_nat (j := 2) rfl, ka, xs, rfl, .inr (.of hka), _, rfl, w, _, rfl, wx_h W.w, _, _, rfl, rfl, rfl, _, rfl, ?_⟩
        have hd : decide (V.int (xs.length : Nat) = V.int (((h : Nat) : Int) + 1)) = decide (xs.length = h + 1) := by
          rw [dec_int, Bool.eq_iff_iff, beq_iff_eq, decide_eq_true_iff]
          omega
        rw [hd]
        by_cases hxl : xs.length = h + 1
        rotate_left
        · rw [decide_eq_false hxl]
          exact iteT (iteT (fin (if_neg fun z => hxl z.1) _ (Same.refl _)))
        rw [decide_eq_true hxl]
        refine iteF ⟨_, rfl, t, _, _, .ref ka, rfl, rfl, rd0 (Same.refl _), atI_nat (j := 2) rfl, ka, rfl, ⟨_, .of hka⟩, fun D nD => ?_⟩
        refine lcP walk_tup (fun i => V.bl (numV (xs.getD i .non))) (Nat.lt_of_le_of_lt hkl (by decide)) nD (fun _ sm => .of (sm _ _ hka)) ?_ ?_
        · rintro i y G3 G4 Q' hi sm ⟨rfl, hy⟩ hq
          have eg : xs.getD i .non = y := by rw [List.getD_eq_getElem?_getD, hy]; rfl
          rw [eg] at hq
          exact ⟨rfl, _, rfl, b, y, rfl, (hks y (List.mem_of_getElem? hy)).same sm, hq _ (Same.refl _)⟩
        intro G1 s1 hd1
        refine ⟨D, (List.range xs.length).map fun i => numV (xs.getD i .non), rfl, .inl (.inl (by rw [hd1, List.map_map]; rfl)), _, rfl, ?_⟩
        rw [range_all]
        cases hn : xs.all numV with
        | false => exact iteT (fin (if_neg fun z => by rw [hn] at z; exact Bool.false_ne_true z.2) _ s1)
        | true =>
          have ex := nums_int hn
          exact iteF (hrest _ _ ⟨rfl, s1, ka, xs.map intV, rfl, by rw [← ex]; exact hka, by rw [List.length_map]; exact hxl, if_pos ⟨hxl, hn⟩⟩)
end
end L2.My
end
section
set_option Elab.async false
set_option linter.all false
set_option maxRecDepth 100000
set_option maxHeartbeats 4000000
/-! _law_told. -/
namespace L2.My
open PySem PySem.Spec PyProof.Rows
abbrev sTo : Stmt := top 51
/-- the law's own classes of errors, one beside the other -/
structure ErK (K : PySem.W.Frag) (mg : Str → Option Value) (c0 c1 c2 c3 c4 c5 PE : Addr) : Prop where
  g0 : mg "NoName" = some (.ref c0)
  g1 : mg "NoLock" = some (.ref c1)
  g2 : mg "Named" = some (.ref c2)
  g3 : mg "TreeFull" = some (.ref c3)
  g4 : mg "NoLeaf" = some (.ref c4)
  g5 : mg "NoLocks" = some (.ref c5)
  gP : mg "PostError" = some (.ref PE)
  e00 : PySem.W.exmOne K (.ref c0) (.ref c0) = some true
  e10 : PySem.W.exmOne K (.ref c1) (.ref c0) = some false
  e11 : PySem.W.exmOne K (.ref c1) (.ref c1) = some true
  e20 : PySem.W.exmOne K (.ref c2) (.ref c0) = some false
  e21 : PySem.W.exmOne K (.ref c2) (.ref c1) = some false
  e22 : PySem.W.exmOne K (.ref c2) (.ref c2) = some true
  e30 : PySem.W.exmOne K (.ref c3) (.ref c0) = some false
  e31 : PySem.W.exmOne K (.ref c3) (.ref c1) = some false
  e32 : PySem.W.exmOne K (.ref c3) (.ref c2) = some false
  e33 : PySem.W.exmOne K (.ref c3) (.ref c3) = some true
  e40 : PySem.W.exmOne K (.ref c4) (.ref c0) = some false
  e41 : PySem.W.exmOne K (.ref c4) (.ref c1) = some false
  e42 : PySem.W.exmOne K (.ref c4) (.ref c2) = some false
  e43 : PySem.W.exmOne K (.ref c4) (.ref c3) = some false
  e44 : PySem.W.exmOne K (.ref c4) (.ref c4) = some true
  e50 : PySem.W.exmOne K (.ref c5) (.ref c0) = some false
  e51 : PySem.W.exmOne K (.ref c5) (.ref c1) = some false
  e52 : PySem.W.exmOne K (.ref c5) (.ref c2) = some false
  e53 : PySem.W.exmOne K (.ref c5) (.ref c3) = some false
  e54 : PySem.W.exmOne K (.ref c5) (.ref c4) = some false
  e55 : PySem.W.exmOne K (.ref c5) (.ref c5) = some true
def spTo (C : Addr) : Sp := fun vs H Q _ => ∃ (b g x : Addr) (h : Nat) (ls : List Lf) (ns : List Nd) (t : Addr) (dd : Dd), vs = [.ref x, .ref t] ∧ BoxAt H b g ∧ TrIn C H x h ls ns ∧ DrT h ls ns ∧ DeedAt b H t dd ∧
  ∀ H' fo y, Same H H' → H fo = none → H' fo = some (.lst [(outF H h ls ns dd).1, .ref y]) → TrIn C H' y (outF H h ls ns dd).2.1 (outF H h ls ns dd).2.2.1 (outF H h ls ns dd).2.2.2 → Q (.ref fo) H'
/-- found[0] = a word -/
def tFnd (z : Str) : Addr → Value → Option Addr → TS := fun _ _ _ => tAsg (tC (.str z)) (gSub (tVar 2) (tC (.int 0)) rSetL)
section
variable {P : Program} {w : World} {K : PySem.W.Frag} {mg : Str → Option Value} {base : Heap} {C c0 c1 c2 c3 c4 c5 PE : Addr}
abbrev nTl : List Str := ["tree", "deed", "found", "pair"]
theorem scTl : FnScope nTl ["tree", "deed"] (defScope sTo) := ⟨rfl, rfl, rfl, by decide +kernel, rfl, by decide +kernel, by decide +kernel⟩
/-- the body of its try -/
def tBody (K : PySem.W.Frag) (C c0 c1 c2 c3 c4 c5 : Addr) (W : WX) : TS :=
  tIfS (tTest (tOp rEq (tOp (rIxT K) (tVar 1) (tC (.int 0))) (tC (.str "with"))))
    (tSeq (tAsg (tCallS (spWi C c0 c1 c2 c3) (WE W) (tCons (tVar 0) (tCons (tOp (rIxT K) (tVar 1) (tC (.int 1))) (tCons (tOp (rIxT K) (tVar 1) (tC (.int 2))) tNil)))) (gName 3)) (tAsg (tLst (tCons (tOp (rIxT K) (tVar 3) (tC (.int 1))) (tCons (tOp (rIxT K) (tVar 3) (tC (.int 0))) tNil))) (gName 2)))
    (tIfS (tTest (tOp rEq (tOp (rIxT K) (tVar 1) (tC (.int 0))) (tC (.str "without"))))
      (tAsg (tLst (tCons (tC (.str "done")) (tCons (tCallS (spWo C c4) (WE W) (tCons (tVar 0) (tCons (tOp (rIxT K) (tVar 1) (tC (.int 1))) tNil))) tNil))) (gName 2))
      (tAsg (tLst (tCons (tC (.str "done")) (tCons (tCallS (spRn C c4 c5) (WE W) (tCons (tVar 0) (tCons (tOp (rIxT K) (tVar 1) (tC (.int 1))) (tCons (tOp (rIxT K) (tVar 1) (tC (.int 2))) tNil)))) tNil))) (gName 2)))
theorem fnd_go {z : Str} {a : Addr} {cls : Value} {dd : Option Addr} {D : Ends} {G : Hp} {fo : Addr} {v w2 p0 p1 : V} {y : Option V} (e : G fo = some (.lst [v, w2])) (q : D.nx [some p0, some p1, some (.ref fo), y] (upd G fo (.lst [.str z, w2]))) : tFnd z a cls dd D [some p0, some p1, some (.ref fo), y] G :=
  ⟨_, rfl, fo, _, 0, 0, rfl, rfl, e, rfl, q⟩
theorem ok_tl {f : Addr} {fd : FuncData} {k : Nat} (F : Fun K "_law_told" "_law_told" sTo f fd) (M : ErK K mg c0 c1 c2 c3 c4 c5 PE)
    (cW : CalX P w K mg base (k + 7) "with_member" ["tree", "name", "lock"] (spWi C c0 c1 c2 c3)) (cO : CalX P w K mg base (k + 7) "without_member" ["tree", "leaf"] (spWo C c4)) (cR : CalX P w K mg base (k + 7) "renewed" ["tree", "leaf", "locks"] (spRn C c4 c5)) : FnOk P w K mg base CX0 (k + 8) f fd ["tree", "deed"] (spTo C) := by
  refine F.ok scTl (fun vs H Q E h => ?_) (fun cdv A outer s H vs Q E hr h => ?_)
  · obtain ⟨b, g, x, h, ls, ns, t, dd, rfl, _⟩ := h
    rfl
  · obtain ⟨b, g, x, h, ls, ns, t, dd, rfl, hB, hT, d, dx, q⟩ := h
    refine ⟨_, pss_cons (ps_set (i := 2) scTl.nd rfl (Or.inl rfl) (pe_lst (pa_cons pe_str (pa_cons (pv 0) pa_nil)))) (pss_cons (ps_try_many (X := (cxOf CX0 P w K mg base nTl "_law_told" (defScope sTo) f cdv A outer s H E).nox) (Wout := fun _ _ _ _ => False)
      (l := [(.ref c0, tFnd "NoName"), (.ref c1, tFnd "NoLock"), (.ref c2, tFnd "Named"), (.ref c3, tFnd "TreeFull"), (.ref c4, tFnd "NoLeaf"), (.ref c5, tFnd "NoLocks"), (.ref PE, tFnd "other")])
      (tb := tBody K C c0 c1 c2 c3 c4 c5)
      rfl rfl takes_none5 (fun W pn xe tk _ => ?_)
      (.cons ⟨rfl, rfl, .inl M.g0⟩ (fun a oe cls d pn hz hf => pss_one (ps_asg pe_str (pg_sub (pv 2) pe_int set_list)))
      (.cons ⟨rfl, rfl, .inl M.g1⟩ (fun a oe cls d pn hz hf => pss_one (ps_asg pe_str (pg_sub (pv 2) pe_int set_list)))
      (.cons ⟨rfl, rfl, .inl M.g2⟩ (fun a oe cls d pn hz hf => pss_one (ps_asg pe_str (pg_sub (pv 2) pe_int set_list)))
      (.cons ⟨rfl, rfl, .inl M.g3⟩ (fun a oe cls d pn hz hf => pss_one (ps_asg pe_str (pg_sub (pv 2) pe_int set_list)))
      (.cons ⟨rfl, rfl, .inl M.g4⟩ (fun a oe cls d pn hz hf => pss_one (ps_asg pe_str (pg_sub (pv 2) pe_int set_list)))
      (.cons ⟨rfl, rfl, .inl M.g5⟩ (fun a oe cls d pn hz hf => pss_one (ps_asg pe_str (pg_sub (pv 2) pe_int set_list)))
      (.cons ⟨rfl, rfl, .inl M.gP⟩ (fun a oe cls d pn hz hf => pss_one (ps_asg pe_str (pg_sub (pv 2) pe_int set_list))) .nil))))))))
      (pss_one (ps_ret (pv 2)))), ?_⟩
    · exact pss_one (ps_if (pt_cmpR op_eq (pe_ix ix_tup (pv 1) pe_int (fun _ _ => rfl)) pe_str (nomark _)) (pss_cons (ps_set (i := 3) scTl.nd rfl (Or.inl rfl) (pe_callS cW.G (hr.mono (by omega)) (by rfl) cW.g cW.kp cW.b (fun σ => passAt tk σ) (pa_cons (pv 0) (pa_cons (pe_ix ix_tup (pv 1) pe_int (fun _ _ => rfl)) (pa_cons (pe_ix ix_tup (pv 1) pe_int (fun _ _ => rfl)) pa_nil))))) (pss_one (ps_set (i := 2) scTl.nd rfl (Or.inl rfl) (pe_lst (pa_cons (pe_ix ix_tup (pv 3) pe_int (fun _ _ => rfl)) (pa_cons (pe_ix ix_tup (pv 3) pe_int (fun _ _ => rfl)) pa_nil)))))) (pss_one (ps_if (pt_cmpR op_eq (pe_ix ix_tup (pv 1) pe_int (fun _ _ => rfl)) pe_str (nomark _)) (pss_one (ps_set (i := 2) scTl.nd rfl (Or.inl rfl) (pe_lst (pa_cons pe_str (pa_cons (pe_callS cO.G (hr.mono (by omega)) (by rfl) cO.g cO.kp cO.b (fun σ => passAt tk σ) (pa_cons (pv 0) (pa_cons (pe_ix ix_tup (pv 1) pe_int (fun _ _ => rfl)) pa_nil))) pa_nil))))) (pss_one (ps_set (i := 2) scTl.nd rfl (Or.inl rfl) (pe_lst (pa_cons pe_str (pa_cons (pe_callS cR.G (hr.mono (by omega)) (by rfl) cR.g cR.kp cR.b (fun σ => passAt tk σ) (pa_cons (pv 0) (pa_cons (pe_ix ix_tup (pv 1) pe_int (fun _ _ => rfl)) (pa_cons (pe_ix ix_tup (pv 1) pe_int (fun _ _ => rfl)) pa_nil)))) pa_nil))))))))
    · refine ⟨_, rfl, by show 2 ≤ sizeLine; decide, fun fo nfo => ?_⟩
      have u := same_upd (o := HO.lst [.str "other", .ref x]) nfo
      have hfo : (upd H fo (.lst [.str "other", .ref x])) fo = some (.lst [.str "other", .ref x]) := upd_same
      have hB1 := hB.same u
      have hT1 := hT.same u
      have dx1 := dx.same u
      have eo : outF (upd H fo (.lst [.str "other", .ref x])) h ls ns dd = outF H h ls ns dd := outF_bl dx (.same u)
      rw [← eo] at q
      have q : ∀ (H' : Hp) (fo2 y : Addr), Same H H' → H fo2 = none → H' fo2 = some (.lst [(outF (upd H fo (.lst [.str "other", .ref x])) h ls ns dd).1, .ref y]) → TrIn C H' y (outF (upd H fo (.lst [.str "other", .ref x])) h ls ns dd).2.1 (outF (upd H fo (.lst [.str "other", .ref x])) h ls ns dd).2.2.1 (outF (upd H fo (.lst [.str "other", .ref x])) h ls ns dd).2.2.2 → Q (.ref fo2) H' := q
      generalize upd H fo (.lst [.str "other", .ref x]) = H1 at *
      dsimp only [gName]
      show tBody K C c0 c1 c2 c3 c4 c5 _ _ _ _
      have er : ∀ (z : Str), outF H1 h ls ns dd = (.str z, h, ls, ns) → ∀ G, Same H1 G → Q (.ref fo) (upd G fo (.lst [.str z, .ref x])) := fun z ez G s => by
        refine q _ fo x (same_put (u.trans s) nfo) nfo ?_ ?_
        · rw [ez, upd_same]
        · rw [ez]
          exact (hT1.same s).tk (.upd (s _ _ hfo) (fun _ e => by cases e)) (upd_ne (fun e => by
            obtain ⟨dx, la, na, h1, _⟩ := hT1
            rw [e, hfo] at h1
            cases h1))
      have rt : ∀ (G : Hp) (i : Nat) (v : V) (xs : List V), H1 t = some (.tup xs) → Same H1 G → xs[i]? = some v → (SqT K G t xs ∧ atI xs (i : Nat) = some v) := fun G i v xs e s hv => ⟨.of (s _ _ e), atI_nat hv⟩
      unfold tBody
      cases dd with
      | wi nm lk =>
        obtain ⟨ht, tn, tl, tm⟩ := dx1
        refine ⟨_, rfl, t, _, _, .str "with", rfl, rfl, .of ht, atI_nat (j := 0) rfl, rfl, _, rfl, ?_⟩
        rw [decide_eq_true rfl]
        refine iteT ⟨_, rfl, _, rfl, t, _, _, nm, rfl, rfl, .of ht, atI_nat (j := 1) rfl, _, rfl, t, _, _, lk, rfl, rfl, .of ht, atI_nat (j := 2) rfl, b, g, x, h, ls, ns, nm, lk, rfl, hB1, hT1, d, tn, tl, fun hw G s => ?_, fun hw hn G s => ?_, fun z i ez el hz hi => ⟨fun hm G s => ?_, fun hm hf G s => ?_, fun hm hf G y tt s hy ht2 => ?_⟩⟩
        · have ez : outF H1 h ls ns (.wi nm lk) = (.str "NoName", h, ls, ns) := by unfold outF; dsimp only; rw [if_pos hw]
          exact ⟨true, M.e00, fun _ a ha => fnd_go (s _ _ hfo) ⟨_, rfl, er _ ez _ s⟩, fun e => by cases e⟩
        · have ez : outF H1 h ls ns (.wi nm lk) = (.str "NoLock", h, ls, ns) := by unfold outF; dsimp only; rw [if_neg (by rw [hw]; exact fun e => Bool.noConfusion e), if_pos hn]
          exact ⟨false, M.e10, (fun e => by cases e), fun _ => ⟨true, M.e11, fun _ a ha => fnd_go (s _ _ hfo) ⟨_, rfl, er _ ez _ s⟩, fun e => by cases e⟩⟩
        all_goals
          subst ez
          subst el
          have w1 : ¬ wordV (.str z) = false := fun e => by rw [show wordV (.str z) = wordB z from rfl, hz] at e; cases e
          have w2 : ¬ numV (.int i) = false := fun e => absurd hi (of_decide_eq_false e)
        · have ez : outF H1 h ls ns (.wi (.str z) (.int i)) = (.str "Named", h, ls, ns) := by unfold outF; dsimp only; rw [if_neg w1, if_neg w2, if_pos (show strV (.str z) ∈ wds ls from hm)]
          exact ⟨false, M.e20, (fun e => by cases e), fun _ => ⟨false, M.e21, (fun e => by cases e), fun _ => ⟨true, M.e22, fun _ a ha => fnd_go (s _ _ hfo) ⟨_, rfl, er _ ez _ s⟩, fun e => by cases e⟩⟩⟩
        · have ez : outF H1 h ls ns (.wi (.str z) (.int i)) = (.str "TreeFull", h, ls, ns) := by unfold outF; dsimp only; rw [if_neg w1, if_neg w2, if_neg (show ¬ strV (.str z) ∈ wds ls from hm), if_pos hf]
          exact ⟨false, M.e30, (fun e => by cases e), fun _ => ⟨false, M.e31, (fun e => by cases e), fun _ => ⟨false, M.e32, (fun e => by cases e), fun _ => ⟨true, M.e33, fun _ a ha => fnd_go (s _ _ hfo) ⟨_, rfl, er _ ez _ s⟩, fun e => by cases e⟩⟩⟩⟩
        · have ez : outF H1 h ls ns (.wi (.str z) (.int i)) = (.int (blankAt (grown h ls).2 : Nat), (grown h ls).1, (grown h ls).2.set (blankAt (grown h ls).2) (some (z, i)), ns.map (addN (blankAt (grown h ls).2))) := by unfold outF; dsimp only; rw [if_neg w1, if_neg w2, if_neg (show ¬ strV (.str z) ∈ wds ls from hm), if_neg hf]; rfl
          rw [ez] at q
          dsimp only [gName]
          refine ⟨_, rfl, tt, _, _, .int (blankAt (grown h ls).2 : Nat), rfl, rfl, .of ht2, atI_nat (j := 1) rfl, _, rfl, tt, _, _, .ref y, rfl, rfl, .of ht2, atI_nat (j := 0) rfl, by show 2 ≤ sizeLine; decide, fun f2 nf2 => ?_⟩
          have u2 := same_upd (o := HO.lst [.int (blankAt (grown h ls).2 : Nat), .ref y]) nf2
          exact ⟨_, rfl, q _ f2 y ((u.trans s).trans u2) ((u.trans s).free nf2) upd_same (hy.same u2)⟩
      | wo v =>
        obtain ⟨ht, tv⟩ := dx1
        refine ⟨_, rfl, t, _, _, .str "without", rfl, rfl, .of ht, atI_nat (j := 0) rfl, rfl, _, rfl, ?_⟩
        rw [ne_ww]
        refine iteF ⟨_, rfl, t, _, _, .str "without", rfl, rfl, .of ht, atI_nat (j := 0) rfl, rfl, _, rfl, ?_⟩
        rw [decide_eq_true rfl]
        refine iteT ⟨_, rfl, _, rfl, t, _, _, v, rfl, rfl, .of ht, atI_nat (j := 1) rfl, b, g, x, h, ls, ns, v, rfl, hB1, hT1, d, tv, fun hm G y s hy => ?_, fun hm => ?_⟩
        · have ez : outF H1 h ls ns (.wo v) = (.str "done", h, ls.set (iV v) none, ns.filter (offN (iV v))) := by unfold outF; dsimp only; rw [if_pos hm]
          rw [ez] at q
          refine ⟨by show 2 ≤ sizeLine; decide, fun f2 nf2 => ?_⟩
          have u2 := same_upd (o := HO.lst [.str "done", .ref y]) nf2
          exact ⟨_, rfl, q _ f2 y ((u.trans s).trans u2) ((u.trans s).free nf2) upd_same (hy.same u2)⟩
        · have ez : outF H1 h ls ns (.wo v) = (.str "NoLeaf", h, ls, ns) := by unfold outF; dsimp only; rw [if_neg (by rw [hm]; exact fun e => Bool.noConfusion e)]
          exact ⟨false, M.e40, (fun e => by cases e), fun _ => ⟨false, M.e41, (fun e => by cases e), fun _ => ⟨false, M.e42, (fun e => by cases e), fun _ => ⟨false, M.e43, (fun e => by cases e), fun _ => ⟨true, M.e44, fun _ a ha => fnd_go hfo ⟨_, rfl, er _ ez _ (Same.refl _)⟩, fun e => by cases e⟩⟩⟩⟩⟩
      | rn v lk =>
        obtain ⟨ht, tv, tl⟩ := dx1
        refine ⟨_, rfl, t, _, _, .str "renewed", rfl, rfl, .of ht, atI_nat (j := 0) rfl, rfl, _, rfl, ?_⟩
        rw [ne_rw]
        refine iteF ⟨_, rfl, t, _, _, .str "renewed", rfl, rfl, .of ht, atI_nat (j := 0) rfl, rfl, _, rfl, ?_⟩
        rw [ne_rw2]
        refine iteF ⟨_, rfl, _, rfl, t, _, _, v, rfl, rfl, .of ht, atI_nat (j := 1) rfl, _, rfl, t, _, _, lk, rfl, rfl, .of ht, atI_nat (j := 2) rfl, b, g, x, h, ls, ns, v, lk, rfl, hB1, hT1, d, tv, tl, fun hm => ?_, fun hm hk G s => ?_, fun hm ks p hk hp G y s hy => ?_⟩
        · have ez : outF H1 h ls ns (.rn v lk) = (.str "NoLeaf", h, ls, ns) := by unfold outF; dsimp only; rw [if_neg (by rw [hm]; exact fun e => Bool.noConfusion e)]
          exact ⟨false, M.e40, (fun e => by cases e), fun _ => ⟨false, M.e41, (fun e => by cases e), fun _ => ⟨false, M.e42, (fun e => by cases e), fun _ => ⟨false, M.e43, (fun e => by cases e), fun _ => ⟨true, M.e44, fun _ a ha => fnd_go hfo ⟨_, rfl, er _ ez _ (Same.refl _)⟩, fun e => by cases e⟩⟩⟩⟩⟩
        · have ez : outF H1 h ls ns (.rn v lk) = (.str "NoLocks", h, ls, ns) := by unfold outF; dsimp only; rw [if_pos hm, hk]
          exact ⟨false, M.e50, (fun e => by cases e), fun _ => ⟨false, M.e51, (fun e => by cases e), fun _ => ⟨false, M.e52, (fun e => by cases e), fun _ => ⟨false, M.e53, (fun e => by cases e), fun _ => ⟨false, M.e54, (fun e => by cases e), fun _ => ⟨true, M.e55, fun _ a ha => fnd_go (s _ _ hfo) ⟨_, rfl, er _ ez _ s⟩, fun e => by cases e⟩⟩⟩⟩⟩⟩
        · have ez : outF H1 h ls ns (.rn v lk) = (.str "done", h, ls.set (iV v) (some (p.1, ks.getD 0 0)), newN (iV v) ks h ns) := by
            unfold outF
            dsimp only
            rw [if_pos hm, hk, leaf_at hp]
          rw [ez] at q
          refine ⟨by show 2 ≤ sizeLine; decide, fun f2 nf2 => ?_⟩
          have u2 := same_upd (o := HO.lst [.str "done", .ref y]) nf2
          exact ⟨_, rfl, q _ f2 y ((u.trans s).trans u2) ((u.trans s).free nf2) upd_same (hy.same u2)⟩
end
end L2.My
end
section
set_option Elab.async false
set_option linter.all false
set_option maxRecDepth 100000
set_option maxHeartbeats 4000000
/-! _law_begun. -/
namespace L2.My
open PySem PySem.Spec PyProof.Rows
abbrev sBg : Stmt := top 52
def wN (k : Nat) : Str := (⟨#[97 + k / 26]⟩ ++ ⟨#[97 + k % 26]⟩ : Str) ++ "q"
theorem wN_cps (k : Nat) : (wN k).cps.toList = [97 + k / 26, 97 + k % 26, 113] := by
  unfold wN
  rw [PySem.Str.cps_append, Array.toList_append, PySem.Str.cps_append, Array.toList_append]
  have e : ("q" : Str).cps.toList = [113] := by decide +kernel
  rw [e]
  rfl
theorem wN_len (k : Nat) : (wN k).length = 3 := by
  have : (wN k).cps.toList.length = (wN k).length := Array.length_toList
  rw [← this, wN_cps]
  rfl
theorem wN_word {k : Nat} (h : k < 256) : wordB (wN k) = true := by
  refine word_mk (by rw [wN_len]; decide) (by rw [wN_len]; decide) fun c hc => ?_
  rw [wN_cps] at hc
  simp only [List.mem_cons, List.not_mem_nil, or_false] at hc
  unfold signB
  rw [Bool.and_eq_true, decide_eq_true_eq, decide_eq_true_eq]
  omega
theorem wN_inj {a b : Nat} (h : wN a = wN b) : a = b := by
  have e := congrArg (fun z : Str => z.cps.toList) h
  rw [wN_cps, wN_cps] at e
  simp only [List.cons.injEq, and_true] at e
  omega
theorem letter_ix {c : Nat} (h : c < 26) : atI ("abcdefghijklmnopqrstuvwxyz" : Str).cps.toList (c : Nat) = some (97 + c) := by
  rw [letters]
  have : ∀ j : Fin 26, atI ([97, 98, 99, 100, 101, 102, 103, 104, 105, 106, 107, 108, 109, 110, 111, 112, 113, 114, 115, 116, 117, 118, 119, 120, 121, 122] : List Nat) ((j.1 : Nat) : Int) = some (97 + j.1) := by decide +kernel
  exact this ⟨c, h⟩
/-- all leaves but one -/
def fullL (g : Int) : List Lf := (List.range 256).map fun (k : Nat) => if (k : Int) = g then none else some (wN k, (k : Int))
def fullN (g : Int) : List Nd := [((8, 0), 7, if g ≠ 3 then [3] else [])]
theorem full_at {g : Int} {k : Nat} (h : k < 256) : (fullL g)[k]? = some (if (k : Int) = g then none else some (wN k, (k : Int))) := by
  unfold fullL
  rw [List.getElem?_map, List.getElem?_range h]
  rfl
theorem full_ok (g : Int) : DrT 8 (fullL g) (fullN g) := by
  refine ⟨by decide, ?_, fun l hl => ?_, ?_, fun n hn => ?_, rfl, by show 1 ≤ 1152; decide⟩
  · unfold fullL
    rw [List.length_map, List.length_range]
  · obtain ⟨k, hk, rfl⟩ := List.mem_map.mp hl
    rw [List.mem_range] at hk
    intro z i e
    split at e
    · cases e
    · cases e
      exact ⟨wN_word hk, by omega, Int.le_trans (show ((k : Nat) : Int) ≤ 256 by omega) (by decide)⟩
  · have e : ∀ l : List Nat, ((l.map fun (k : Nat) => if (k : Int) = g then (none : Lf) else some (wN k, (k : Int))).filterMap id).map (·.1) = (l.filter fun (k : Nat) => !decide ((k : Int) = g)).map wN := by
      intro l
      induction l with
      | nil => rfl
      | cons x r ih =>
        rw [List.map_cons, List.filter_cons]
        by_cases h : (x : Int) = g
        · rw [if_pos h, List.filterMap_cons_none rfl, ih, if_neg (by simp [h])]
        · rw [if_neg h, List.filterMap_cons_some (f := id) (a := some (wN x, (x : Int))) (b := (wN x, (x : Int))) rfl, List.map_cons, ih, if_pos (by simp [h]), List.map_cons]
    show (((List.range 256).map fun (k : Nat) => if (k : Int) = g then (none : Lf) else some (wN k, (k : Int))).filterMap id |>.map (·.1)).Nodup
    rw [e]
    exact List.pairwise_map.mpr ((List.nodup_range.sublist List.filter_sublist).imp fun {a b} h e => h (wN_inj e))
  · obtain rfl := List.mem_singleton.mp hn
    refine ⟨by show 1 ≤ 8; decide, by show 8 ≤ 8; decide, by show 0 < 2 ^ (8 - 8); decide, by show (0 : Int) ≤ 7; decide, by show (7 : Int) ≤ maxI; decide, ?_, ?_, fun j hj => ?_⟩
    · show (if g ≠ 3 then [3] else []).Pairwise (· < ·)
      split
      · exact List.pairwise_singleton _ _
      · exact .nil
    · show (if g ≠ 3 then [3] else []).length ≤ 256
      split <;> decide
    · have hj : j ∈ (if g ≠ 3 then [3] else []) := hj
      split at hj
      · rename_i hg
        obtain rfl := List.mem_singleton.mp hj
        exact ⟨by show 3 / 2 ^ 8 = 0; decide, _, by rw [full_at (by decide), if_neg (fun e => hg (by omega))]⟩
      · cases hj
theorem zero_ok : DrT 0 [none] [] := ⟨by decide, rfl, (fun l hl => by rw [List.mem_singleton.mp hl]; intro z i e; cases e), .nil, (fun n hn => nomatch hn), rfl, by decide⟩
theorem paired_maps {α β γ : Type} {R : β → γ → Prop} {f : α → β} {h : α → γ} : ∀ l : List α, (∀ x ∈ l, R (f x) (h x)) → Paired R (l.map f) (l.map h)
  | [], _ => .nil
  | x :: r, hx => .cons (hx x List.mem_cons_self) (paired_maps r fun y hy => hx y (List.mem_cons_of_mem _ hy))
def spBg : Sp := fun vs H Q _ => ∃ (b g : Addr), vs = [.ref b] ∧ BoxAt H b g ∧ ∀ H' p h ls ns, BL [b] H H' → BoxAt H' b g → PtIn H' p h ls ns → DrT h ls ns → Q (.ref p) H'
abbrev rAddS : R2 := fun x y H Q => ∃ i j, x = .str i ∧ y = .str j ∧ i.length + j.length ≤ sizeLine ∧ Q (.str (i ++ j)) H
abbrev rFd : R2 := rI CDiv fun i j => .int (i / j)
abbrev rMd : R2 := rI (fun _ j => 0 < j) fun i j => .int (i % j)
section
variable {P : Program} {w : World} {K : PySem.W.Frag} {mg : Str → Option Value} {base : Heap}
abbrev nBg : List Str := ["box", "kind", "letters", "some", "gone", "k"]
theorem scBg : FnScope nBg ["box"] (defScope sBg) := ⟨rfl, rfl, rfl, by decide +kernel, rfl, by decide +kernel, by decide +kernel⟩
theorem ok_bg {f : Addr} {fd : FuncData} {k : Nat} (F : Fun K "_law_begun" "_law_begun" sBg f fd) (T : Tx mg) (cD : Cal P w K mg base (k + 5) "_law_draw" ["box", "menu"] spDraw) (cT : Cal P w K mg base (k + 5) "_law_tree" ["box", "most"] spTr) : FnOk P w K mg base CX0 (k + 6) f fd ["box"] spBg := by
  refine F.ok scBg (fun vs H Q E h => ?_) (fun cdv A outer s H vs Q E hr h => ?_)
  · obtain ⟨b, g, rfl, _⟩ := h
    rfl
  · obtain ⟨b, g, rfl, hB, q⟩ := h
    refine ⟨_, (pss_cons (ps_set (i := 1) scBg.nd rfl (Or.inl rfl) (pe_c cD hr (by omega) (by rfl) (pa_cons (pv 0) (pa_cons pe_int pa_nil)))) (pss_cons (ps_if (pt_cmpR op_eq (pv 1) pe_int (nomark _)) (pss_cons (ps_set (i := 2) scBg.nd rfl (Or.inr rfl) pe_str) (pss_cons (ps_set (i := 3) scBg.nd rfl (Or.inr rfl) (pe_tupleOf (by rfl) T.tuple_ (pe_lc (own := [("k", 5)]) (g := gName 5) (te := tTup (tCons (tOp rAddS (tOp rAddS (tOp rIxS (tVar 2) (tOp rFd (tVar 5) (tC (.int 26)))) (tOp rIxS (tVar 2) (tOp rMd (tCB (fun xs H Q => (∃ i, xs = [.int i] ∧ Q (.int i) H) ∨ ∃ k, xs = [.bl k] ∧ Q (.int (if k then 1 else 0)) H) (tCons (tVar 5) tNil)) (tC (.int 26))))) (tC (.str "q"))) (tCons (tVar 5) tNil))) rfl scBg.nd (pi_range1 (by rfl) T.range_ (pa_cons pe_int pa_nil)) (blkOk_by (N := nBg) (sc := defScope sBg) (by decide +kernel)) (fun _ _ _ _ _ => pg_name (i := 5) scBg.nd rfl (Or.inl rfl)) (fun _ _ _ _ _ => pts_nil) (fun _ _ _ _ _ => (pe_tup (pa_cons (pe_op op_add_str (pe_op op_add_str (pe_ix ix_str (pv 2) (pe_op op_fdiv (pv 5) pe_int) (fun _ _ => rfl)) (pe_ix ix_str (pv 2) (pe_op op_mod (pe_callTy call_int1 (by rfl) T.int_ (by decide +kernel) (pa_cons (pv 5) pa_nil)) pe_int) (fun _ _ => rfl))) pe_str) (pa_cons (pv 5) pa_nil))))))) (pss_cons (ps_set (i := 4) scBg.nd rfl (Or.inr rfl) (pe_c cD hr (by omega) (by rfl) (pa_cons (pv 0) (pa_cons pe_int pa_nil)))) (pss_one (ps_ret (pe_lst (pa_cons pe_int (pa_cons (pe_tupleF (by rfl) T.tuple_ (pe_lc (own := [("k", 5)]) (g := gName 5) (te := tIf (tTest (tOp rEq (tVar 5) (tVar 4))) (tC .non) (tOp (rIxT K) (tVar 3) (tVar 5))) rfl scBg.nd (pi_range1 (by rfl) T.range_ (pa_cons pe_int pa_nil)) (blkOk_by (N := nBg) (sc := defScope sBg) (by decide +kernel)) (fun _ _ _ _ _ => pg_name (i := 5) scBg.nd rfl (Or.inl rfl)) (fun _ _ _ _ _ => pts_nil) (fun _ _ _ _ _ => (pe_ifExp (pt_cmpR op_eq (pv 5) (pv 4) (nomark _)) pe_non (pe_ix ix_tup (pv 3) (pv 5) (fun _ _ => rfl)))))) (pa_cons (pe_tup (pa_cons (pe_tup (pa_cons (pe_tup (pa_cons pe_int (pa_cons pe_int pa_nil))) (pa_cons pe_int (pa_cons (pe_ifExp (pt_cmpR op_ne (pv 4) pe_int (nomark _)) (pe_tup (pa_cons pe_int pa_nil)) (pe_tup pa_nil)) pa_nil)))) pa_nil)) pa_nil))))))))) pss_nil) (pss_one (ps_ret (pe_ifExp (pt_cmpR op_lt (pv 1) pe_int (nomark _)) (pe_lst (pa_cons pe_int (pa_cons (pe_tupF (pa_cons pe_non pa_nil)) (pa_cons (pe_tup pa_nil) pa_nil)))) (pe_c cT hr (by omega) (by rfl) (pa_cons (pv 0) (pa_cons pe_int pa_nil)))))))), ?_⟩
    refine ⟨_, rfl, b, g, 12, rfl, hB, by decide, by decide, fun G1 kd bl1 hB1 k0 k1 => ?_⟩
    dsimp only [gName]
    refine ⟨_, rfl, rfl, _, rfl, ?_⟩
    refine ite2 (fun _ => ?_) (fun _ => ?_)
    · refine ⟨256, rfl, by decide, by decide, fun D nD => ?_⟩
      refine lc_it (walk_range (lo := 0)) (fun i G => Same G1 G ∧ ∃ us, G D = some (.lst us) ∧ us.length = i ∧ Paired (LfAt G) us ((List.range i).map fun (k : Nat) => (some (wN k, (k : Int)) : Lf))) ⟨same_upd nD, [], upd_same, rfl, .nil⟩ (fun _ _ _ _ => trivial) ?_ ?_
      · rintro i y G G' hi ⟨sm, us, hD, hl, hp⟩ ⟨rfl, hy⟩
        have hi : i < 256 := hi
        obtain rfl : y = .int ((i : Nat) : Int) := hy.trans (congrArg V.int (by omega))
        refine ⟨rfl, ?_⟩
        refine ⟨_, rfl, _, rfl, _, _, rfl, rfl, ⟨by decide, by decide⟩, "abcdefghijklmnopqrstuvwxyz", _, 97 + i / 26, rfl, rfl, by decide +kernel, ?_, ?_⟩
        · rw [show ((i : Nat) : Int) / 26 = ((i / 26 : Nat) : Int) by omega]
          exact letter_ix (by omega)
        refine ⟨_, rfl, _, rfl, .inl ⟨_, rfl, _, _, rfl, rfl, by show (0 : Int) < 26; decide, "abcdefghijklmnopqrstuvwxyz", _, 97 + i % 26, rfl, rfl, by decide +kernel, ?_, ?_⟩⟩
        · rw [show ((i : Nat) : Int) % 26 = ((i % 26 : Nat) : Int) by omega]
          exact letter_ix (by omega)
        have l2 : (⟨#[97 + i / 26]⟩ ++ ⟨#[97 + i % 26]⟩ : Str).length = 2 := by
          have a1 : (⟨#[97 + i / 26]⟩ ++ ⟨#[97 + i % 26]⟩ : Str).cps.toList.length = (⟨#[97 + i / 26]⟩ ++ ⟨#[97 + i % 26]⟩ : Str).length := Array.length_toList
          rw [← a1, PySem.Str.cps_append, Array.toList_append]
          rfl
        have hq1 : ("q" : Str).length = 1 := by decide +kernel
        refine ⟨_, _, rfl, rfl, by show 1 + 1 ≤ sizeLine; decide, _, _, rfl, rfl, by rw [l2, hq1]; decide, _, rfl, by show 2 ≤ sizeLine; decide, fun p np => ?_⟩
        have u := same_upd (o := HO.tup [.str (wN i), .int (i : Nat)]) np
        have hDu := u _ _ hD
        have npD : p ≠ D := fun e => by rw [e, hD] at np; cases np
        refine ⟨us, hDu, by rw [hl]; exact Nat.lt_of_le_of_lt (show i ≤ 256 by omega) (by decide), same_put (sm.trans u) nD, us ++ [.ref p], upd_same, by rw [List.length_append, hl]; rfl, ?_⟩
        have tk : TK G' (upd (upd G' p (.tup [.str (wN i), .int (i : Nat)])) D (.lst (us ++ [.ref p]))) := (TK.same u).trans (.upd hDu (fun _ e => by cases e))
        rw [List.range_succ, List.map_append]
        exact Paired.snoc (Paired.mapP hp fun _ _ r => r.tk tk) ⟨p, rfl, by rw [upd_ne npD, upd_same]; rfl⟩
      · rintro G2 ⟨s2, us, hD, hl, hp⟩
        have hl : us.length = 256 := hl
        have hp : Paired (LfAt G2) us ((List.range 256).map fun (k : Nat) => (some (wN k, (k : Int)) : Lf)) := hp
        refine .inl ⟨D, us, rfl, .of hD, fun a0 na0 => ?_⟩
        have u3 := same_upd (o := HO.tup us) na0
        have ha0 : (upd G2 a0 (.tup us)) a0 = some (.tup us) := upd_same
        have hp3 := Paired.mapP hp fun _ _ r => r.tk (.same u3)
        have hB3 := (hB1.same s2).same u3
        have bl3 := (bl1.trans (.same s2)).trans (.same u3)
        generalize upd G2 a0 (.tup us) = G3 at *
        dsimp only [gName]
        refine ⟨_, rfl, b, g, 300, rfl, hB3, by decide, by decide, fun G4 gone bl4 hB4 r0 r1 => ?_⟩
        have tk4 := hB3.tk bl4
        have ha4 := tk4.1 _ _ ha0
        have hp4 := Paired.mapP hp3 fun _ _ r => r.tk tk4
        have bl14 := bl3.trans bl4
        dsimp only [gName]
        refine ⟨256, rfl, by decide, by decide, fun D2 nD2 => ?_⟩
        rw [show Int.toNat 256 = 256 from rfl]
        refine lcP (walk_range (lo := 0)) (fun i => if ((i : Nat) : Int) = gone then V.non else us.getD i .non) (by decide) nD2 (fun _ _ => trivial) ?_ ?_
        · rintro i y G5 G6 Q' hi sm ⟨rfl, hy⟩ hq
          have hi : i < 256 := hi
          obtain rfl : y = .int ((i : Nat) : Int) := hy.trans (congrArg V.int (by omega))
          refine ⟨rfl, _, rfl, _, rfl, rfl, _, rfl, ?_⟩
          by_cases e : ((i : Nat) : Int) = gone
          · rw [if_pos e] at hq
            rw [decide_eq_true (congrArg V.int e)]
            exact iteT (hq _ (Same.refl _))
          · rw [if_neg e] at hq
            rw [decide_eq_false (fun z => e (V.int.inj z))]
            have hx : us[i]? = some (us.getD i .non) := by rw [List.getD_eq_getElem?_getD, List.getElem?_eq_getElem (by omega)]; rfl
            exact iteF ⟨_, rfl, _, rfl, a0, us, _, _, rfl, rfl, .of (sm _ _ ha4), atI_nat hx, hq _ (Same.refl _)⟩
        · intro G5 s5 hD2
          refine ⟨D2, _, rfl, SqL.of hD2, fun la o ho nla => ?_⟩
          have u6 := same_upd (o := HO.frz o (.tup ((List.range 256).map fun i => if ((i : Nat) : Int) = gone then V.non else us.getD i .non))) nla
          have tk6 : TK G4 (upd G5 la (.frz o (.tup ((List.range 256).map fun i => if ((i : Nat) : Int) = gone then V.non else us.getD i .non)))) := .same (s5.trans u6)
          have hLa : LvsAt (upd G5 la (.frz o (.tup ((List.range 256).map fun i => if ((i : Nat) : Int) = gone then V.non else us.getD i .non)))) la (fullL gone) := by
            refine ⟨_, ⟨o, ho, upd_same⟩, ?_⟩
            unfold fullL
            refine paired_maps _ fun i hi => ?_
            rw [List.mem_range] at hi
            by_cases e : ((i : Nat) : Int) = gone
            · rw [if_pos e, if_pos e]; rfl
            · rw [if_neg e, if_neg e]
              obtain ⟨v, hv, hr⟩ := Paired.at hp4 (i := i) (b := (some (wN i, (i : Int)) : Lf)) (by rw [List.getElem?_map, List.getElem?_range hi]; rfl)
              rw [show us.getD i .non = v by rw [List.getD_eq_getElem?_getD, hv]; rfl]
              exact hr.tk tk6
          have s46 := s5.trans u6
          generalize upd G5 la (.frz o (.tup ((List.range 256).map fun i => if ((i : Nat) : Int) = gone then V.non else us.getD i .non))) = G6 at *
          have hB6 := hB4.same s46
          refine ⟨by show 2 ≤ sizeLine; decide, fun p1 np1 => ?_⟩
          have v1 := same_upd (o := HO.tup [.int 8, .int 0]) np1
          have h1 : (upd G6 p1 (.tup [.int 8, .int 0])) p1 = some (.tup [.int 8, .int 0]) := upd_same
          generalize upd G6 p1 (.tup [.int 8, .int 0]) = G7 at *
          refine te_use (t := tIf _ _ _) (fun v G8 => Same G7 G8 ∧ ∃ c, v = .ref c ∧ G8 c = some (.tup (nN (if gone ≠ 3 then [3] else [])))) ?_ ?_
          · rintro v G8 ⟨s8, c, rfl, hc⟩
            refine ⟨by show 3 ≤ sizeLine; decide, fun p2 np2 => ⟨by show 1 ≤ sizeLine; decide, fun p3 np3 => ⟨by show 3 ≤ sizeLine; decide, fun p4 np4 => ?_⟩⟩⟩
            have v2 := same_upd (o := HO.tup [.ref p1, .int 7, .ref c]) np2
            have v3 := same_upd (o := HO.tup [.ref p2]) np3
            have v4 := same_upd (o := HO.lst [.int 8, .ref la, .ref p3]) np4
            have s24 := (v2.trans v3).trans v4
            have s64 := (v1.trans s8).trans s24
            refine q _ p4 8 (fullL gone) (fullN gone) ((bl14.trans (.same s46)).trans (.same s64)) (hB6.same s64) ⟨la, p3, upd_same, hLa.tk (.same s64), ⟨_, v4 _ _ upd_same, .cons ⟨p2, p1, c, rfl, v4 _ _ (v3 _ _ upd_same), s24 _ _ (s8 _ _ h1), s24 _ _ hc⟩ .nil⟩⟩ (full_ok gone)
          · intro hk
            refine ⟨_, rfl, rfl, _, rfl, ?_⟩
            by_cases e : gone = 3
            · rw [decide_eq_true (congrArg V.int e)]
              refine iteF ⟨Nat.zero_le _, fun c nc => hk _ _ ⟨same_upd nc, c, rfl, ?_⟩⟩
              rw [if_neg (fun z => z e), upd_same]
              rfl
            · rw [decide_eq_false (fun z => e (V.int.inj z))]
              refine iteT ⟨by show 1 ≤ sizeLine; decide, fun c nc => hk _ _ ⟨same_upd nc, c, rfl, ?_⟩⟩
              rw [if_pos e, upd_same]
              rfl
    · refine ⟨_, rfl, _, _, rfl, rfl, _, rfl, ?_⟩
      refine ite2 (fun _ => ?_) (fun _ => ?_)
      · refine ⟨by show 1 ≤ sizeLine; decide, fun la o ho nla => ⟨Nat.zero_le _, fun na nna => ⟨by show 3 ≤ sizeLine; decide, fun p np => ?_⟩⟩⟩
        have v1 := same_upd (o := HO.frz o (.tup [.non])) nla
        have v2 := same_upd (o := HO.tup []) nna
        have v3 := same_upd (o := HO.lst [.int 0, .ref la, .ref na]) np
        have s := (v1.trans v2).trans v3
        exact q _ p 0 [none] [] (bl1.trans (.same s)) (hB1.same s) ⟨la, na, upd_same, ⟨_, ⟨o, ho, v3 _ _ (v2 _ _ upd_same)⟩, .cons rfl .nil⟩, ⟨_, v3 _ _ upd_same, .nil⟩⟩ zero_ok
      · exact ⟨_, rfl, b, g, 4, rfl, hB1, by decide, fun G2 p la na h ls ns bl2 hB2 np hp hL hN d => q _ p h ls ns (bl1.trans bl2) hB2 ⟨la, na, hp, hL, hN⟩ d⟩
end
end L2.My
end
section
set_option Elab.async false
set_option linter.all false
set_option maxRecDepth 100000
set_option maxHeartbeats 4000000
/-! What stands through the law. -/
namespace L2.My
open PySem PySem.Spec PyProof.Rows
/-- repr of a number or a text -/
def rRepS : List V → Hp → VK → Prop := fun xs H Q => (∃ i, xs = [.int i] ∧ i.natAbs.log2 < 1920 ∧ Q (.str (toString i)) H) ∨ ∃ z, xs = [.str z] ∧ (reprText z).length ≤ sizeLine ∧ Q (.str (reprText z)) H
theorem call_repS {X : Cx} : CallR X (.builtin "repr") rRepS := by
  intro pins s σ H xs us Q I r h
  rcases h with ⟨i, rfl, hz, q⟩ | ⟨z, rfl, hz, q⟩
  · obtain ⟨u, rfl, t, rfl⟩ := vals1 r
    exact PySem.P.repr_of_int hz ⟨.str _, H, I.tok _, ⟨_, rfl⟩, q⟩
  · obtain ⟨u, rfl, t, rfl⟩ := vals1 r
    exact PySem.P.repr_of_str ⟨.str _, H, I.tok _, ⟨_, rfl⟩, q⟩ hz
theorem pts_ok {h : Nat} {ls : List Lf} {ns : List Nd} (g : GTr h ls ns) : Nice (dPt h ls ns) ∧ (dPt h ls ns).depth ≤ 40 ∧ (dPt h ls ns).bulk ≤ 306100 := by
  refine ⟨.lst (.cons (nice_h g.h8) (.cons (nice_lvs g.gl) (.cons (nice_nds g.gn) .nil))), ?_, ?_⟩
  · have h1 := dep_lvs ls
    have h2 := dep_nds ns
    simp only [dPt, PyData.depth, PyData.depthAll]
    omega
  · have h1 := short_tree (ds := []) (ls := ls) (ns := ns) (fun _ _ _ => trivial) g.gl g.gn g.ll g.nl
    simp only [dPt, PyData.bulk, PyData.bulkAll] at h1 ⊢
    omega
/-! ### things while a list grows -/
section
variable {b e : Addr} {H : Hp} {xs ys : List V}
theorem ThT.lup {v : V} {t : String} (h : ThT H v t) (he : H e = some (.lst xs)) : ThT (upd H e (.lst ys)) v t := by
  cases h with
  | non => exact .non
  | bl c => exact .bl c
  | int i => exact .int i
  | str x => exact .str x
  | @lst a zs h =>
    by_cases z : a = e
    · rw [z]; exact .lst upd_same
    · exact .lst (by rw [upd_ne z]; exact h)
  | @tup a zs h => exact .tup (by rw [upd_ne (fun z => by rw [z, he] at h; cases h)]; exact h)
  | @dct a zs h => exact .dct (by rw [upd_ne (fun z => by rw [z, he] at h; cases h)]; exact h)
theorem tup_lup {a : Addr} {zs : List V} (he : H e = some (.lst xs)) (h : (upd H e (.lst ys)) a = some (.tup zs)) : H a = some (.tup zs) := by
  by_cases z : a = e
  · rw [z, upd_same] at h; cases h
  · rw [upd_ne z] at h; exact h
theorem Sh.lup (he : H e = some (.lst xs)) : ∀ {n : Nat} {v : V}, Sh b H n v → Sh b (upd H e (.lst ys)) n v
  | 0, v, h => ⟨let ⟨t, h1⟩ := h.1; ⟨t, h1.lup he⟩, h.2⟩
  | n + 1, v, h => by
    refine ⟨⟨let ⟨t, h1⟩ := h.1.1; ⟨t, h1.lup he⟩, h.1.2⟩, fun a zs ea eh => ?_⟩
    obtain ⟨q1, q2⟩ := h.2 a zs ea (tup_lup he eh)
    exact ⟨q1, fun x hx => Sh.lup he (q2 x hx)⟩
theorem Thg.lup {v : V} (h : Thg b H v) (he : H e = some (.lst xs)) : Thg b (upd H e (.lst ys)) v := fun n => (h n).lup he
theorem DeedAt.lup {t : Addr} {x : Dd} (h : DeedAt b H t x) (he : H e = some (.lst xs)) : DeedAt b (upd H e (.lst ys)) t x := by
  have st : ∀ {zs : List V}, H t = some (.tup zs) → (upd H e (.lst ys)) t = some (.tup zs) := fun {zs} h => by
    rw [upd_ne (fun z => by rw [z, he] at h; cases h)]
    exact h
  cases x with
  | wi nm lk => exact ⟨st h.1, h.2.1.lup he, h.2.2.1.lup he, h.2.2.2⟩
  | wo v => exact ⟨st h.1, h.2.lup he⟩
  | rn v lk => exact ⟨st h.1, h.2.1.lup he, h.2.2.lup he⟩
end
/-! ### what stands -/
theorem paired_impL {α β : Type} {R R' : α → β → Prop} {xs : List α} {ys : List β} (h : Paired R xs ys) (f : ∀ x y, x ∈ xs → R x y → R' x y) : Paired R' xs ys := by
  induction h with
  | nil => exact .nil
  | cons r _ ih => exact .cons (f _ _ List.mem_cons_self r) (ih fun x y hx => f x y (List.mem_cons_of_mem _ hx))
theorem paired_memL {α β : Type} {R : α → β → Prop} {xs : List α} {ys : List β} (h : Paired R xs ys) {x : α} (hx : x ∈ xs) : ∃ y, R x y := by
  induction h with
  | nil => cases hx
  | cons r _ ih =>
    rcases List.mem_cons.mp hx with rfl | hx
    · exact ⟨_, r⟩
    · exact ih hx
theorem TrIn.bl {C : Addr} {H H' : Hp} {x b g : Addr} {h : Nat} {ls : List Lf} {ns : List Nd} (t : TrIn C H x h ls ns) (hB : BoxAt H b g) (s : BL [b] H H') : TrIn C H' x h ls ns := by
  obtain ⟨dx, la, na, h1, h2, h3⟩ := id t
  refine t.tk (hB.tk s) ((s _ _ ?_ h1).trans h1.symm)
  obtain ⟨_, _, _, _, _, _, e, _⟩ := hB
  intro hm
  rw [List.mem_singleton.mp hm, e] at h1
  cases h1
theorem TrIn.lup {C e : Addr} {H : Hp} {x : Addr} {h : Nat} {ls : List Lf} {ns : List Nd} {xs ys : List V} (t : TrIn C H x h ls ns) (he : H e = some (.lst xs)) : TrIn C (upd H e (.lst ys)) x h ls ns :=
  t.tk (.upd he (fun _ e => by cases e)) (upd_ne (fun z => by
    obtain ⟨dx, la, na, h1, _⟩ := t
    rw [z, he] at h1
    cases h1))
theorem Wd.obj {H : Hp} {w lv nd : Addr} {ms : List Me} {h : Nat} {ls : List Lf} {ns : List Nd} (x : Wd H w lv nd ms h ls ns) {a : Addr} (ha : a ∈ own w lv nd ms) : ∃ o, H a = some o ∧ ∀ C dx fs, o ≠ .ins C dx fs := by
  unfold own at ha
  rcases List.mem_cons.mp ha with rfl | ha
  · exact ⟨_, x.w, by simp⟩
  rcases List.mem_cons.mp ha with rfl | ha
  · obtain ⟨vs, e1, _⟩ := x.lv
    exact ⟨_, e1, by simp⟩
  rcases List.mem_cons.mp ha with rfl | ha
  · obtain ⟨kvs, e1, _⟩ := x.nd
    exact ⟨_, e1, by simp⟩
  · obtain ⟨m, hm, rfl⟩ := List.mem_map.mp ha
    obtain ⟨l, e, _⟩ := x.ent hm
    exact ⟨_, e, by simp⟩
theorem TrIn.own {C : Addr} {H H' : Hp} {x : Addr} {h h2 : Nat} {ls ls2 : List Lf} {ns ns2 : List Nd} {w lv nd : Addr} {ms : List Me} (t : TrIn C H x h ls ns) (W : Wd H w lv nd ms h2 ls2 ns2) (s : BL (own w lv nd ms) H H') : TrIn C H' x h ls ns := by
  obtain ⟨dx, la, na, h1, h2, h3⟩ := id t
  refine t.tk (W.tk s) ((s _ _ (fun hm => ?_) h1).trans h1.symm)
  obtain ⟨o, e, no⟩ := W.obj hm
  rw [h1] at e
  exact no _ _ _ (Option.some.inj e).symm
abbrev Pst := Nat × List Lf × List Nd
def ElAt (C : Addr) (H : Hp) (r : Addr) (q : Pst) : Prop := ∃ x, H r = some (.lst [.ref x, .str (dPt q.1 q.2.1 q.2.2).shown]) ∧ TrIn C H x q.1 q.2.1 q.2.2 ∧ DrT q.1 q.2.1 q.2.2
structure InvL (C : Addr) (G : Hp) (b g w lv nd e x : Addr) (ms : List Me) (h : Nat) (ls : List Lf) (ns : List Nd) (rs : List Addr) (els : List Pst) : Prop where
  B : BoxAt G b g
  W : Wd G w lv nd ms h ls ns
  d : DrT h ls ns
  T : TrIn C G x h ls ns
  he : G e = some (.lst (rs.map .ref))
  el : Paired (ElAt C G) rs els
  dg : g ∉ own w lv nd ms
  de : e ∉ own w lv nd ms
  dr : ∀ r ∈ rs, r ∉ own w lv nd ms
  eg : e ≠ g
  er : e ∉ rs
section
variable {C : Addr} {G G' : Hp} {b g w lv nd e x : Addr} {ms : List Me} {h : Nat} {ls : List Lf} {ns : List Nd} {rs : List Addr} {els : List Pst}
theorem BoxAt.nl {H : Hp} {b g a : Addr} {xs : List V} (hB : BoxAt H b g) (h : H a = some (.lst xs)) : a ≠ b := fun z => by
  obtain ⟨_, _, _, _, _, _, e, _⟩ := hB
  rw [z, e] at h
  cases h
theorem InvL.same (i : InvL C G b g w lv nd e x ms h ls ns rs els) (s : Same G G') : InvL C G' b g w lv nd e x ms h ls ns rs els :=
  ⟨i.B.same s, i.W.same s, i.d, i.T.same s, s _ _ i.he, Paired.mapP i.el fun _ _ ⟨x, h1, h2, h3⟩ => ⟨x, s _ _ h1, h2.same s, h3⟩, i.dg, i.de, i.dr, i.eg, i.er⟩
theorem InvL.box (i : InvL C G b g w lv nd e x ms h ls ns rs els) (s : BL [b] G G') (hB : BoxAt G' b g) : InvL C G' b g w lv nd e x ms h ls ns rs els :=
  ⟨hB, i.W.box i.B s, i.d, i.T.bl i.B s, s _ _ (by simpa using i.B.nl i.he) i.he, Paired.mapP i.el fun _ _ ⟨x, h1, h2, h3⟩ => ⟨x, s _ _ (by simpa using i.B.nl h1) h1, h2.bl i.B s, h3⟩, i.dg, i.de, i.dr, i.eg, i.er⟩
theorem InvL.grow {r : Addr} (i : InvL C G b g w lv nd e x ms h ls ns rs els) (hr : G r = some (.lst [.ref x, .str (dPt h ls ns).shown])) (nr : r ∉ own w lv nd ms) (ne : e ≠ r) : InvL C (upd G e (.lst (rs.map .ref ++ [.ref r]))) b g w lv nd e x ms h ls ns (rs ++ [r]) (els ++ [(h, ls, ns)]) := by
  have tk : TK G (upd G e (.lst (rs.map .ref ++ [.ref r]))) := .upd i.he (fun _ e => by cases e)
  have st : ∀ {a : Addr} {o : HO}, a ≠ e → G a = some o → (upd G e (.lst (rs.map .ref ++ [.ref r]))) a = some o := fun n h => by rw [upd_ne n]; exact h
  have hel := i.el
  have her := i.er
  refine ⟨i.B.put (i.B.nl i.he) i.eg, i.W.bl (L := [e]) (.upd (by simp)) tk (fun a ha hm => i.de (by rw [← List.mem_singleton.mp hm]; exact ha)) (fun a ha k c e1 => ?_), i.d, i.T.lup i.he, by rw [upd_same, List.map_append]; rfl, ?_, i.dg, i.de, ?_, i.eg, ?_⟩
  · rw [List.mem_singleton.mp ha, i.he] at e1
    have e2 := HO.lst.inj (Option.some.inj e1)
    cases rs with
    | nil => cases e2
    | cons a r => cases e2
  · refine Paired.snoc ?_ ⟨x, st (Ne.symm ne) hr, i.T.lup i.he, i.d⟩
    exact paired_impL hel fun r' q' hr' ⟨x, h1, h2, h3⟩ => ⟨x, st (fun z => her (by rw [← z]; exact hr')) h1, h2.lup i.he, h3⟩
  · intro a ha
    rcases List.mem_append.mp ha with ha | ha
    · exact i.dr a ha
    · rw [List.mem_singleton.mp ha]; exact nr
  · intro hm
    rcases List.mem_append.mp hm with hm | hm
    · exact i.er hm
    · exact ne (List.mem_singleton.mp hm)
/-- behind a deed in the law's own world -/
theorem InvL.next {nd' y : Addr} {ms' : List Me} {h2 : Nat} {ls2 : List Lf} {ns2 : List Nd} (i : InvL C G b g w lv nd e x ms h ls ns rs els) (s : BL (own w lv nd ms) G G') (ho : ∀ a ∈ own w lv nd' ms', a ∈ own w lv nd ms ∨ G a = none) (W : Wd G' w lv nd' ms' h2 ls2 ns2) (d : DrT h2 ls2 ns2) (T : TrIn C G' y h2 ls2 ns2) : InvL C G' b g w lv nd' e y ms' h2 ls2 ns2 rs els := by
  have nb := i.W.nbox i.B
  have kp : ∀ a, a ∉ own w lv nd ms → G a ≠ none → a ∉ own w lv nd' ms' := fun a h1 h2 h3 => (ho a h3).elim h1 h2
  have hB : BoxAt G' b g := by
    obtain ⟨ns, a1, r, m, al, gr, h1, h2, h3⟩ := i.B
    exact ⟨ns, a1, r, m, al, gr, s _ _ nb h1, s _ _ i.dg h2, h3⟩
  have hg : G g ≠ none := by
    obtain ⟨ns, a1, r, m, al, gr, h1, h2, h3⟩ := i.B
    rw [h2]; simp
  refine ⟨hB, W, d, T, s _ _ i.de i.he, ?_, kp g i.dg hg, kp e i.de (by rw [i.he]; simp), fun r hr => kp r (i.dr r hr) ?_, i.eg, i.er⟩
  · refine paired_impL i.el fun r q hr ⟨x, h1, h2, h3⟩ => ⟨x, s _ _ (i.dr r hr) h1, h2.own i.W s, h3⟩
  · obtain ⟨q, ⟨x, h1, _⟩⟩ := paired_memL i.el hr
    rw [h1]; simp
end
end L2.My
end
section
set_option Elab.async false
set_option linter.all false
set_option maxRecDepth 100000
set_option maxHeartbeats 4000000
/-! The law. -/
namespace L2.My
open PySem PySem.Spec PyProof.Rows
abbrev sLaw : Stmt := top 53
def spLaw (K : PySem.W.Frag) : Sp := fun vs H Q _ => ∃ (a : Addr) (ns : List Int), vs = [.ref a] ∧ SqL K H a (ns.map V.int) ∧ ∀ H', Q (.bl true) H'
/-- an answer that is shown -/
def AnsOk (v : V) : Prop := (∃ n : Nat, v = .int (n : Nat) ∧ n ≤ 256) ∨ ∃ z, v = .str z ∧ (reprText z).length ≤ sizeLine
theorem outF_ans {H : Hp} {h : Nat} {ls : List Lf} {ns : List Nd} {x : Dd} (d : DrT h ls ns) : AnsOk (outF H h ls ns x).1 := by
  have s1 : AnsOk (.str "NoName") := .inr ⟨_, rfl, by decide +kernel⟩
  have s2 : AnsOk (.str "NoLock") := .inr ⟨_, rfl, by decide +kernel⟩
  have s3 : AnsOk (.str "Named") := .inr ⟨_, rfl, by decide +kernel⟩
  have s4 : AnsOk (.str "TreeFull") := .inr ⟨_, rfl, by decide +kernel⟩
  have s5 : AnsOk (.str "NoLeaf") := .inr ⟨_, rfl, by decide +kernel⟩
  have s6 : AnsOk (.str "NoLocks") := .inr ⟨_, rfl, by decide +kernel⟩
  have s7 : AnsOk (.str "done") := .inr ⟨_, rfl, by decide +kernel⟩
  have hl1 : 1 ≤ ls.length := by rw [d.ll]; exact Nat.one_le_two_pow
  cases x with
  | wi nm lk =>
    unfold outF
    dsimp only
    split
    · exact s1
    split
    · exact s2
    split
    · exact s3
    split
    · exact s4
    rename_i hf
    have := (grown_ok d hf).l256
    have := blank_lt (grown_mem h hl1)
    exact .inl ⟨_, rfl, by omega⟩
  | wo v =>
    unfold outF
    dsimp only
    split
    · exact s7
    · exact s5
  | rn v lk =>
    unfold outF
    dsimp only
    split
    · split
      · exact s7
      · exact s6
    · exact s5
section
variable {P : Program} {w : World} {K : PySem.W.Frag} {mg : Str → Option Value} {base : Heap} {C B : Addr}
abbrev nLaw : List Str := ["script", "box", "parts", "w", "tree", "elder", "k", "deed", "told", "due", "shown", "one", "text"]
theorem scLaw : FnScope nLaw ["script"] (defScope sLaw) := ⟨rfl, rfl, rfl, by decide +kernel, rfl, by decide +kernel, by decide +kernel⟩
theorem ok_law {f : Addr} {fd : FuncData} {k : Nat} (F : Fun K "law" "law" sLaw f fd) (T : Tx mg) (c : TrC K C) (ci : TrI K C) (R : MkT P w K mg base (k + 5) C B) (eR : EqT P w K mg base (k + 1) C)
    (cX : Cal P w K mg base (k + 1) "_law_box" ["script"] (spBox K)) (cD : Cal P w K mg base (k + 3) "_law_draw" ["box", "menu"] spDraw) (cB : Cal P w K mg base (k + 6) "_law_begun" ["box"] spBg) (cW : Cal P w K mg base (k + 1) "_law_world" ["parts"] spWrl)
    (cE : Cal P w K mg base (k + 6) "_law_deed" ["box", "w"] spDd) (cS : Cal P w K mg base (k + 1) "_law_shown" ["w"] spShw) (cT : Cal P w K mg base (k + 8) "_law_told" ["tree", "deed"] (spTo C)) (cU : Cal P w K mg base (k + 4) "_law_due" ["w", "deed"] spDue) : FnOkG P w K mg base (k + 10) f fd ["script"] (spLaw K) := by
  refine fun_okG F scLaw (fun vs H Q E h => ?_) (fun cdv A outer s H vs Q E hr hgd h => ?_)
  · obtain ⟨a, ns, rfl, _⟩ := h
    rfl
  · obtain ⟨a, ns, rfl, hS, q⟩ := h
    have hrp : CallR (cxOf CX0 P w K mg base nLaw "law" (defScope sLaw) f cdv A outer s H E).nox (.builtin "repr") (rRepr K) := call_repr hgd hr.units
    refine ⟨_, (pss_cons (ps_set (i := 1) scLaw.nd rfl (Or.inl rfl) (pe_c cX hr (by omega) (by rfl) (pa_cons (pv 0) pa_nil))) (pss_cons (ps_set (i := 2) scLaw.nd rfl (Or.inl rfl) (pe_c cB hr (by omega) (by rfl) (pa_cons (pv 1) pa_nil))) (pss_cons (ps_set (i := 3) scLaw.nd rfl (Or.inl rfl) (pe_c cW hr (by omega) (by rfl) (pa_cons (pv 2) pa_nil))) (pss_cons (ps_set (i := 4) scLaw.nd rfl (Or.inl rfl) (pe_make R.M R.F (hr.mono (by omega)) (by rfl) R.g R.b .nil pass_no (pa_cons (pe_ix ix_list (pv 2) pe_int (fun _ _ => rfl)) (pa_cons (pe_ix ix_list (pv 2) pe_int (fun _ _ => rfl)) (pa_cons (pe_ix ix_list (pv 2) pe_int (fun _ _ => rfl)) pa_nil))))) (pss_cons (ps_set (i := 5) scLaw.nd rfl (Or.inl rfl) (pe_lst pa_nil)) (pss_cons (ps_for PassesOwn.never rfl (pi_range1 (by rfl) T.range_ (pa_cons (pe_op op_add pe_int (pe_c cD hr (by omega) (by rfl) (pa_cons (pv 1) (pa_cons pe_int pa_nil)))) pa_nil)) (pg_name (i := 6) scLaw.nd rfl (Or.inl rfl)) (pss_cons (ps_set (i := 7) scLaw.nd rfl (Or.inl rfl) (pe_c cE hr (by omega) (by rfl) (pa_cons (pv 1) (pa_cons (pv 3) pa_nil)))) (pss_cons (ps_expr (pe_bm PySem.F.plainAttrs_list PySem.F.slot_list_append PySem.F.type_list_append mt_append (pv 5) (pa_cons (pe_lst (pa_cons (pv 4) (pa_cons (pe_callB hrp (by rfl) T.repr_ (by decide +kernel) (pa_cons (pe_c cS hr (by omega) (by rfl) (pa_cons (pv 3) pa_nil)) pa_nil)) pa_nil))) pa_nil))) (pss_cons (ps_set (i := 8) scLaw.nd rfl (Or.inl rfl) (pe_c cT hr (by omega) (by rfl) (pa_cons (pv 4) (pa_cons (pv 7) pa_nil)))) (pss_cons (ps_set (i := 9) scLaw.nd rfl (Or.inl rfl) (pe_c cU hr (by omega) (by rfl) (pa_cons (pv 3) (pa_cons (pv 7) pa_nil)))) (pss_cons (ps_if (pt_cmpR op_ne (pe_callB call_repS (by rfl) T.repr_ (by decide +kernel) (pa_cons (pe_ix ix_list (pv 8) pe_int (fun _ _ => rfl)) pa_nil)) (pe_callB call_repS (by rfl) T.repr_ (by decide +kernel) (pa_cons (pv 9) pa_nil)) (nomark _)) (pss_one (ps_ret pe_bl)) pss_nil) (pss_cons (ps_set (i := 4) scLaw.nd rfl (Or.inl rfl) (pe_ix ix_list (pv 8) pe_int (fun _ _ => rfl))) (pss_cons (ps_if (pt_cmpR op_ne (pe_callB hrp (by rfl) T.repr_ (by decide +kernel) (pa_cons (pe_lst (pa_cons (pe_fld (pv 4) rfl) (pa_cons (pe_fld (pv 4) rfl) (pa_cons (pe_fld (pv 4) rfl) pa_nil)))) pa_nil)) (pe_callB hrp (by rfl) T.repr_ (by decide +kernel) (pa_cons (pe_c cS hr (by omega) (by rfl) (pa_cons (pv 3) pa_nil)) pa_nil)) (nomark _)) (pss_one (ps_ret pe_bl)) pss_nil) (pss_cons (ps_set (i := 10) scLaw.nd rfl (Or.inl rfl) (pe_c cS hr (by omega) (by rfl) (pa_cons (pv 3) pa_nil))) (pss_one (ps_if (pt_not (pt_cmpR (op_eqO eR.F (hr.mono (by omega)) eR.hs eR.hf eR.b pass0) (pv 4) (pe_make R.M R.F (hr.mono (by omega)) (by rfl) R.g R.b .nil pass_no (pa_cons (pe_ix ix_list (pv 10) pe_int (fun _ _ => rfl)) (pa_cons (pe_ix ix_list (pv 10) pe_int (fun _ _ => rfl)) (pa_cons (pe_ix ix_list (pv 10) pe_int (fun _ _ => rfl)) pa_nil)))) (nomark _))) (pss_one (ps_ret pe_bl)) pss_nil))))))))))) (pss_one (ps_ret (pe_callB (cr_all rfl) (by rfl) T.all_ (by decide +kernel) (pa_cons (pe_lc (own := [("one", 11), ("text", 12)]) (g := gLst K 2 (gCons (gName 11) (gCons (gName 12) gNil))) (te := tOp rEq (tCB (rRepr K) (tCons (tLst (tCons (tFld K (tVar 11) "height") (tCons (tFld K (tVar 11) "leaves") (tCons (tFld K (tVar 11) "nodes") tNil)))) tNil)) (tVar 12)) rfl scLaw.nd (pi_list (pv 5)) (blkOk_by (N := nLaw) (sc := defScope sLaw) (by decide +kernel)) (fun _ _ _ _ _ => pg_lst rfl (pgs_cons (pg_name (i := 11) scLaw.nd rfl (Or.inl rfl)) (pgs_cons (pg_name (i := 12) scLaw.nd rfl (Or.inl rfl)) pgs_nil))) (fun _ _ _ _ _ => pts_nil) (fun _ _ _ _ _ => (pe_cmpR op_eq (pe_callB (call_repr hgd hr.units) (by rfl) T.repr_ (by decide +kernel) (pa_cons (pe_lst (pa_cons (pe_fld (pv 11) rfl) (pa_cons (pe_fld (pv 11) rfl) (pa_cons (pe_fld (pv 11) rfl) pa_nil)))) pa_nil)) (pv 12) (nomark _)))) pa_nil)))))))))), ?_⟩
    refine ⟨_, rfl, a, ns, rfl, hS, fun H1 b g s1 hB1 => ?_⟩
    dsimp only [gName]
    refine ⟨_, rfl, b, g, rfl, hB1, fun H2 p h ls nds bl2 hB2 hP d => ?_⟩
    dsimp only [gName]
    refine ⟨_, rfl, p, h, ls, nds, rfl, hP, d, fun H3 w lv nd ms s3 W fr => ?_⟩
    have hB3 := hB2.same s3
    obtain ⟨la, na, hp, hL, hN⟩ := hP.same s3
    dsimp only [gName]
    have dg3 : g ∉ own w lv nd ms := fun hm => by
      have h1 := fr g hm
      obtain ⟨_, _, _, _, _, _, _, h2, _⟩ := hB2
      rw [h2] at h1
      cases h1
    refine seq_use (t := tAsg _ _) (fun σ H4 => ∃ x, σ = [some (.ref a), some (.ref b), some (.ref p), some (.ref w), some (.ref x), none, none, none, none, none, none, none, none] ∧ Same H3 H4 ∧ TrIn C H4 x h ls nds) ?_ (fun hk => ?_)
    rotate_left
    · exact ⟨_, rfl, p, _, _, .int (h : Nat), rfl, rfl, .of hp, atI_nat (j := 0) rfl, _, rfl, p, _, _, .ref la, rfl, rfl, .of hp, atI_nat (j := 1) rfl, _, rfl, p, _, _, .ref na, rfl, rfl, .of hp, atI_nat (j := 2) rfl, mk_core (b := b) hB3.nt hL hN d fun H' x s hT => hk _ _ ⟨x, rfl, s, hT⟩⟩
    rintro σ H4 ⟨x, rfl, s4, hT⟩
    have hB4 := hB3.same s4
    have W4 := W.same s4
    refine ⟨Nat.zero_le _, fun e ne => ?_⟩
    have s5 := same_upd (o := HO.lst []) ne
    have I5 : InvL C (upd H4 e (.lst [])) b g w lv nd e x ms h ls nds [] [] := ⟨hB4.same s5, W4.same s5, d, hT.same s5, upd_same, .nil, dg3, fun hm => W4.there hm ne, (fun r hr => nomatch hr), hB4.ng ne, (fun hm => nomatch hm)⟩
    generalize upd H4 e (.lst []) = H5 at *
    dsimp only [gName]
    refine ⟨_, rfl, b, g, 35, rfl, I5.B, by decide, by decide, fun H6 r bl6 hB6 r0 r1 => ⟨_, _, rfl, rfl, _, rfl, by omega, by omega, ?_⟩⟩
    have I6 := I5.box bl6 hB6
    refine for_it (walk_range (lo := 0)) (fun i σ G => ∃ (y6 y7 y8 y9 y10 : Option V) (x nd : Addr) (ms : List Me) (h : Nat) (ls : List Lf) (nds : List Nd) (rs : List Addr) (els : List Pst), σ = [some (.ref a), some (.ref b), some (.ref p), some (.ref w), some (.ref x), some (.ref e), y6, y7, y8, y9, y10, none, none] ∧ InvL C G b g w lv nd e x ms h ls nds rs els ∧ rs.length = i) ⟨_, _, _, _, _, x, nd, ms, h, ls, nds, [], [], rfl, I6, rfl⟩ (fun i σ G _ _ => trivial) ?_ ?_
    · rintro i y σ G G' hi ⟨y6, y7, y8, y9, y10, x, nd, ms, h, ls, nds, rs, els, rfl, I, hrl⟩ ⟨rfl, rfl⟩
      have hi41 : i < 41 := by omega
      dsimp only [gName]
      refine ⟨_, rfl, _, rfl, b, g, w, lv, nd, ms, h, ls, nds, rfl, I.B, I.W, I.d, fun G1 t dd bl1 hB1 dx1 => ?_⟩
      have I1 := I.box bl1 hB1
      dsimp only [gName]
      refine ⟨_, rfl, .inl ⟨rfl, _, SqL.of I1.he⟩, _, rfl, _, rfl, w, lv, nd, ms, h, ls, nds, rfl, I1.W, I1.d, fun G2 sh s2 nsh hP2 => ?_⟩
      have I2 := I1.same s2
      have gt : GTr h ls nds := DrT.gtr (b := b) (la := b) (na := b) (H := G2) I.d
      obtain ⟨n1, n2, n3⟩ := pts_ok gt
      obtain ⟨la2, na2, hp2, hL2, hN2⟩ := hP2
      refine ⟨sh, dPt h ls nds, rfl, dpPt hp2 hL2 hN2, n1, n2, n3, by show 2 ≤ sizeLine; decide, fun r nr => ?_⟩
      have s3 := same_upd (o := HO.lst [.ref x, .str (dPt h ls nds).shown]) nr
      have hr3 : (upd G2 r (.lst [.ref x, .str (dPt h ls nds).shown])) r = some (.lst [.ref x, .str (dPt h ls nds).shown]) := upd_same
      have nro : r ∉ own w lv nd ms := fun hm => I2.W.there hm nr
      have ner : e ≠ r := fun z => by rw [← z, I2.he] at nr; cases nr
      have I3 := I2.same s3
      have dx3 := (dx1.same s2).same s3
      generalize upd G2 r (.lst [.ref x, .str (dPt h ls nds).shown]) = G3 at *
      refine ⟨e, _, .ref r, rfl, rfl, I3.he, Nat.lt_of_le_of_lt (show (rs.map V.ref).length ≤ 41 by rw [List.length_map]; omega) (by decide), ?_⟩
      have I4 := I3.grow hr3 nro ner
      have dx4 := dx3.lup (ys := rs.map .ref ++ [.ref r]) I3.he
      clear I1 I2 I3 dx1 dx3 hr3
      generalize upd G3 e (.lst (rs.map .ref ++ [.ref r])) = G4 at *
      refine ⟨_, rfl, _, rfl, b, g, x, h, ls, nds, t, dd, rfl, I4.B, I4.T, I4.d, dx4, fun G5 fo y s5 nfo hfo hy => ?_⟩
      have I5 := I4.same s5
      have dx5 := dx4.same s5
      have nfoo : fo ∉ own w lv nd ms := fun hm => I4.W.there hm nfo
      have d2 := outF_ok I4.d dx4
      have an := outF_ans (H := G4) (ns := nds) (x := dd) I4.d
      have eo : outF G5 h ls nds dd = outF G4 h ls nds dd := outF_bl dx4 (.same s5)
      dsimp only [gName]
      refine ⟨_, rfl, _, rfl, b, w, lv, nd, ms, h, ls, nds, t, dd, rfl, I5.W, I5.d, dx5, I5.W.nbox I5.B, fun G6 nd' ms' b6 ho W6 => ?_⟩
      rw [eo] at W6 ⊢
      generalize outF G4 h ls nds dd = o at *
      obtain ⟨ans, h2, ls2, ns2⟩ := o
      dsimp only at hfo hy d2 an W6 ⊢
      have I6 := I5.next b6 ho W6 d2 (hy.own I5.W b6)
      have hfo6 := b6 _ _ nfoo hfo
      have hrl2 : (rs ++ [r]).length = i + 1 := by rw [List.length_append, hrl]; rfl
      dsimp only [gName]
      refine seq_use (t := tIfS _ _ _) (fun σ G => σ = [some (.ref a), some (.ref b), some (.ref p), some (.ref w), some (.ref x), some (.ref e), some (.int (0 + (i : Nat))), some (.ref t), some (.ref fo), some ans, y10, none, none] ∧ G6 = G) ?_ (fun hrest => ?_)
      rotate_left
      · rcases an with ⟨n, rfl, hn⟩ | ⟨z, rfl, hz⟩
        · have hb : ((n : Nat) : Int).natAbs.log2 < 1920 := Nat.lt_of_le_of_lt (Nat.log2_le_self _) (by omega)
          refine ⟨_, rfl, fo, _, _, _, rfl, rfl, .of hfo6, atI_nat (j := 0) rfl, .inl ⟨_, rfl, hb, _, rfl, .inl ⟨_, rfl, hb, rfl, _, rfl, ?_⟩⟩⟩
          rw [decide_eq_true rfl]
          exact iteF (hrest _ _ ⟨rfl, rfl⟩)
        · refine ⟨_, rfl, fo, _, _, _, rfl, rfl, .of hfo6, atI_nat (j := 0) rfl, .inr ⟨_, rfl, hz, _, rfl, .inr ⟨_, rfl, hz, rfl, _, rfl, ?_⟩⟩⟩
          rw [decide_eq_true rfl]
          exact iteF (hrest _ _ ⟨rfl, rfl⟩)
      rintro σ _ ⟨rfl, rfl⟩
      refine ⟨_, rfl, fo, _, _, .ref y, rfl, rfl, .of hfo6, atI_nat (j := 1) rfl, ?_⟩
      dsimp only [gName]
      have gt2 : GTr h2 ls2 ns2 := DrT.gtr (b := b) (la := b) (na := b) (H := G2) d2
      obtain ⟨m1, m2, m3⟩ := pts_ok gt2
      refine seq_use (t := tIfS _ _ _) (fun σ G => σ = [some (.ref a), some (.ref b), some (.ref p), some (.ref w), some (.ref y), some (.ref e), some (.int (0 + (i : Nat))), some (.ref t), some (.ref fo), some ans, y10, none, none] ∧ InvL C G b g w lv nd' e y ms' h2 ls2 ns2 (rs ++ [r]) (els ++ [(h, ls, nds)])) ?_ (fun hrest => ?_)
      rotate_left
      · obtain ⟨dy, la, na, hy6, hL6, hN6⟩ := I6.T
        refine ⟨_, rfl, y, C, dy, _, _, rfl, hy6, c.cls, c.na _ (by simp), rfl, _, rfl, y, C, dy, _, _, rfl, hy6, c.cls, c.na _ (by simp), rfl, _, rfl, y, C, dy, _, _, rfl, hy6, c.cls, c.na _ (by simp), rfl, by show 3 ≤ sizeLine; decide, fun l nl => ?_⟩
        have s7 := same_upd (o := HO.lst [.int (h2 : Nat), .ref la, .ref na]) nl
        have hl7 : (upd G6 l (.lst [.int (h2 : Nat), .ref la, .ref na])) l = some (.lst [.int (h2 : Nat), .ref la, .ref na]) := upd_same
        have I7 := I6.same s7
        refine ⟨l, dPt h2 ls2 ns2, rfl, dpPt hl7 (hL6.tk (.same s7)) (hN6.tk (.same s7)), m1, m2, m3, _, rfl, w, lv, nd', ms', h2, ls2, ns2, rfl, I7.W, d2, fun G8 sh8 s8 nsh8 hP8 => ?_⟩
        obtain ⟨la8, na8, hp8, hL8, hN8⟩ := hP8
        refine ⟨sh8, dPt h2 ls2 ns2, rfl, dpPt hp8 hL8 hN8, m1, m2, m3, rfl, _, rfl, ?_⟩
        rw [decide_eq_true rfl]
        exact iteF (hrest _ _ ⟨rfl, I7.same s8⟩)
      rintro σ G7 ⟨rfl, I7⟩
      refine ⟨_, rfl, w, lv, nd', ms', h2, ls2, ns2, rfl, I7.W, d2, fun G8 sh s8 nsh8 hP8 => ?_⟩
      obtain ⟨la8, na8, hp8, hL8, hN8⟩ := hP8
      have I8 := I7.same s8
      dsimp only [gName]
      refine ⟨_, rfl, _, rfl, sh, _, _, .int (h2 : Nat), rfl, rfl, .of hp8, atI_nat (j := 0) rfl, _, rfl, sh, _, _, .ref la8, rfl, rfl, .of hp8, atI_nat (j := 1) rfl, _, rfl, sh, _, _, .ref na8, rfl, rfl, .of hp8, atI_nat (j := 2) rfl, mk_core (b := b) I8.B.nt hL8 hN8 d2 fun G9 x9 s9 hT9 => ?_⟩
      have I9 := I8.same s9
      obtain ⟨dy, la, na, t9⟩ := I9.T
      obtain ⟨dx9, la9, na9, t99⟩ := hT9
      refine ⟨y, dy, _, _, rfl, t9.1, .base (.ins t99.1 c.cls ci.ha ci.hn ci.htk ci.hm), eR.nf, y, dy, la, na, h2, ls2, ns2, _, rfl, t9, gt2, .inl ⟨x9, dx9, la9, na9, h2, ls2, ns2, rfl, t99, gt2, _, rfl, _, rfl, ?_⟩⟩
      rw [decide_eq_true ⟨rfl, rfl, rfl⟩]
      exact iteF ⟨_, _, _, _, _, y, nd', ms', h2, ls2, ns2, rs ++ [r], els ++ [(h, ls, nds)], rfl, I9, hrl2⟩
    · rintro σ G ⟨y6, y7, y8, y9, y10, x, nd, ms, h, ls, nds, rs, els, rfl, I, hrl⟩
      refine ⟨_, rfl, e, rfl, ⟨_, SqL.of I.he⟩, fun D nD => ?_⟩
      refine lcP (walk_list (xs := rs.map .ref)) (fun _ => V.bl true) (Nat.lt_of_le_of_lt (show (rs.map V.ref).length ≤ 41 by rw [List.length_map]; omega) (by decide)) nD (fun _ sm => SqL.of (sm _ _ I.he)) ?_ ?_
      · rintro i y G3 G4 Q' hi sm ⟨rfl, hy⟩ hq
        rw [List.getElem?_map] at hy
        cases hr0 : rs[i]? with
        | none => rw [hr0] at hy; cases hy
        | some r =>
          rw [hr0] at hy
          obtain rfl : V.ref r = y := Option.some.inj hy
          obtain ⟨⟨h0, ls0, ns0⟩, hq0, x0, e1, hT0, d0⟩ := Paired.at' I.el hr0
          have e1 := sm _ _ e1
          obtain ⟨dx0, la0, na0, hx0, hL0, hN0⟩ := hT0.same sm
          dsimp only at e1 hx0 hL0 hN0 d0
          refine ⟨r, _, rfl, SqL.of e1, rfl, _, _, rfl, _, _, rfl, rfl, rfl, ?_⟩
          refine ⟨_, rfl, x0, C, dx0, _, _, rfl, hx0, c.cls, c.na _ (by simp), rfl, _, rfl, x0, C, dx0, _, _, rfl, hx0, c.cls, c.na _ (by simp), rfl, _, rfl, x0, C, dx0, _, _, rfl, hx0, c.cls, c.na _ (by simp), rfl, by show 3 ≤ sizeLine; decide, fun l nl => ?_⟩
          have s7 := same_upd (o := HO.lst [.int (h0 : Nat), .ref la0, .ref na0]) nl
          obtain ⟨m1, m2, m3⟩ := pts_ok (DrT.gtr (b := b) (la := b) (na := b) (H := G) d0)
          refine ⟨l, dPt h0 ls0 ns0, rfl, dpPt upd_same (hL0.tk (.same s7)) (hN0.tk (.same s7)), m1, m2, m3, _, rfl, rfl, ?_⟩
          rw [decide_eq_true rfl]
          exact hq _ s7
      · intro G2 s2 hd
        refine ⟨D, (List.range (rs.map V.ref).length).map fun _ => true, rfl, .inl (.inl (by rw [hd, List.map_map]; rfl)), ?_⟩
        have e : ((List.range (rs.map V.ref).length).map fun _ => true).all id = true := by simp
        rw [e]
        exact q _
end
end L2.My
end
section
set_option Elab.async false
set_option linter.all false
set_option maxRecDepth 100000
set_option maxHeartbeats 4000000
namespace L2.My
open PySem PySem.Spec PyProof.Rows
/-! The start of the head: __init__ of PostError does nothing. -/
abbrev sPeI : Stmt := inClass (top 1) 0
section
variable {P : Program} {w : World} {K : PySem.W.Frag} {mg : Str → Option Value} {base : Heap} {C : Addr}
theorem scPeI : FnScope ["self"] ["self"] (defScope sPeI) := ⟨rfl, rfl, rfl, by decide +kernel, rfl, by decide +kernel, by decide +kernel⟩
theorem ok_pe {f : Addr} {fd : FuncData} {k : Nat} (F : Fun K "__init__" "PostError.__init__" sPeI f fd) : FnOk P w K mg base CX0 (k + 1) f fd ["self"] spNo := by
  refine F.ok scPeI (fun vs H Q E h => ?_) (fun cdv A outer s H vs Q E hr h => ?_)
  · obtain ⟨x, rfl, _⟩ := h
    rfl
  · obtain ⟨x, rfl, q⟩ := h
    refine ⟨_, pss_one ps_pass, ?_⟩
    exact q
theorem ini0_of {f : Addr} {fd : FuncData} (F : Fun K "__init__" "PostError.__init__" sPeI f fd) (o : OexC K C) (h1 : PySem.W.findIn K (.ref C) "__init__" = some (some (.ref f))) (h2 : PySem.W.typeIn K (.ref f) = some (.type "function")) : Ini0 P w K mg base C :=
  ⟨o, f, fd, h1, h2, ok_pe F, F.binds (ps := ["self"]) fun _ _ _ _ _ _ us hl => match us, hl with | [_], _ => rfl⟩
end
end L2.My
end
section
set_option Elab.async false
set_option linter.all false
set_option maxRecDepth 100000
set_option maxHeartbeats 4000000
/-! A Hook of facts by names, of defs, and of one more Bool. -/
namespace L2.My
open PySem PySem.Spec PyProof.Rows He
abbrev AlY : Type := Al × Bool
def obsY (fa : List Fa) (fn : List FnD) (ex : PySem.W.Frag → Bool) (K : PySem.W.Frag) : AlY := (obsE fa fn K, ex K && fn.all fun d => PySem.W.keepIn K (.ref (fAd K d.at_)))
def valY (fn : List FnD) : AlY := (valE fn, true)
def obsYG (n : Nat) (fa : List Fa) (fn : List FnD) (ex : PySem.W.Frag → Bool) (g : Addr → Option Obj) : AlY := obsY fa fn ex (frG g (asD g n))
structure SaysY (fa : List Fa) (fn : List FnD) (ex : PySem.W.Frag → Bool) (K : PySem.W.Frag) : Prop where
  e : SaysE fa fn K
  more : ex K = true
  kp : ∀ d ∈ fn, PySem.W.keepIn K (.ref (fAd K d.at_)) = true
theorem saysY_of {fa : List Fa} {fn : List FnD} {ex : PySem.W.Frag → Bool} {K : PySem.W.Frag} (e : obsY fa fn ex K = valY fn) : SaysY fa fn ex K := by
  have e1 : obsE fa fn K = valE fn := congrArg (fun z : AlY => z.1) e
  have e2 : (ex K && fn.all fun d => PySem.W.keepIn K (.ref (fAd K d.at_))) = true := congrArg (fun z : AlY => z.2) e
  obtain ⟨h1, h2⟩ := ba e2
  exact ⟨e1, h1, fun d hd => List.all_eq_true.mp h2 d hd⟩
def hookY (n : Nat) (fa : List Fa) (fn : List FnD) (ex : PySem.W.Frag → Bool) : PySem.W.Hook where
  α := AlY
  obs := fun s => obsYG n fa fn ex s.heap.get?
  val := fun _ => valY fn
  says := fun _ h => ∃ K : PySem.W.Frag, K.In h ∧ SaysY fa fn ex K
  of := fun _ _ e => ⟨_, frG_in, saysY_of e⟩
  keeps := fun _ _ _ ⟨K, hK, c⟩ k => ⟨K, PySem.W.Frag.In.keeps hK k, c⟩
theorem obsYG_eq {n : Nat} {fa : List Fa} {fn : List FnD} {ex : PySem.W.Frag → Bool} {g : Addr → Option Obj} {s : Shared} (h : ∀ a, g a = s.heap.get? a) : obsYG n fa fn ex g = (hookY n fa fn ex).obs s := by
  have e : g = s.heap.get? := funext h
  rw [e] <;> rfl
section
variable {fa : List Fa} {fn : List FnD} {ex : PySem.W.Frag → Bool} {K : PySem.W.Frag}
theorem SaysY.fact (c : SaysY fa fn ex K) {f : Fa} (h : f ∈ fa) : f.ok K = true := by
  obtain ⟨i, hi, e⟩ := List.mem_iff_getElem.mp h
  exact c.e.fact i (f := f) (by rw [List.getElem?_eq_getElem hi, e])
/-- a def of the text, by its place in the list -/
theorem SaysY.fun_ (c : SaysY fa fn ex K) {d : FnD} {st : Stmt} (h : d ∈ fn) (hp : d.params = defArgs st) (hb : d.body = defBody st) (hs : d.scope = defScope st) : ∃ fd, Fun K d.name d.qual st (fAd K d.at_) fd := by
  obtain ⟨i, hi, e⟩ := List.mem_iff_getElem.mp h
  obtain ⟨oc, od, osl, kV, doc, pm, an, cdv, ct, lk, hc⟩ := c.e.def_ i (d := d) (by rw [List.getElem?_eq_getElem hi, e])
  rw [hp, hb, hs] at lk
  exact ⟨_, fun_mk lk hc (c.kp d h)⟩
end
/-! ### an own exception class, decided -/
def exB (K : PySem.W.Frag) (C : Addr) : Bool := match K.lookup C with
  | some ⟨.type "type", _, .cls cd, sl⟩ => (match cd.mro, sl.toList with
    | .ref C' :: bm, [_, _, _, _, some (.builtin n), _] => C' == C && n == "ValueError.__new__" && !cd.hasDel && PySem.HandSPX.refsVE bm && cd.hasDict
    | _, _ => false)
  | _ => false
theorem exB_ok {K : PySem.W.Frag} {C : Addr} (q : exB K C = true) : ∃ nm q N bs bm sn sub ab col dd k0 k1 k2 k3 k5, K.lookup C = some (excClassObj nm q C N bs bm true sn sub ab col dd k0 k1 k2 k3 k5 "ValueError.__new__") ∧ PySem.HandSPX.refsVE bm = true := by
  unfold exB at q
  split at q
  · rename_i dd cd sl ho
    split at q
    · rename_i C' bm k0 k1 k2 k3 n k5 hm hs
      simp only [Bool.and_eq_true, beq_iff_eq, Bool.not_eq_true'] at q
      obtain ⟨⟨⟨⟨rfl, rfl⟩, hdel⟩, hr⟩, hd⟩ := q
      obtain ⟨nm, bs, mro, ns, qn, hdct, sn, sub, ab, col, del⟩ := cd
      dsimp only at hm hdel hd
      subst hm hdel hd
      have hsl : sl = #[k0, k1, k2, k3, some (.builtin "ValueError.__new__"), k5] := by
        obtain ⟨l⟩ := sl
        simp only at hs
        rw [hs]
      subst hsl
      exact ⟨nm, qn, ns, bs, bm, sn, sub, ab, col, dd, k0, k1, k2, k3, k5, ho, hr⟩
    · cases q
  · cases q
def eqV (a b : Option Value) : Bool := decide (a = b)
theorem eqV_ok {a b : Option Value} (h : eqV a b = true) : a = b := of_decide_eq_true h
def eqB (a b : Option Bool) : Bool := decide (a = b)
theorem eqB_ok {a b : Option Bool} (h : eqB a b = true) : a = b := of_decide_eq_true h
def xcB (K : PySem.W.Frag) (C : Addr) : Bool := exB K C && (eqO (PySem.W.findIn K (.ref C) "__setattr__") (some (some (.builtin "object.__setattr__"))) && (eqB (PySem.W.subIn K (.ref C) (.type "BaseException")) (some true) && (eqV (PySem.W.typeIn K (.ref C)) (some (.type "type")) && (PySem.W.keepIn K (.ref C) &&
  (eqO (PySem.W.findIn K (.ref C) "__getattribute__") (some (some (.builtin "BaseException.__getattribute__"))) && (eqO (PySem.W.findIn K (.ref C) "__getattr__") (some none) && (eqO (PySem.W.findIn K (.ref C) "__class__") (some (some (.builtin "object.__class__"))) &&
  (eqO (PySem.W.specialIn K (.builtin "object.__class__") "__get__") (some (some (.builtin "getset_descriptor.__get__"))) && (eqB (PySem.W.takesIn K (.builtin "object.__class__")) (some true) && (eqB (PySem.W.mroIn K C (.type "object")) (some true) && PySem.W.hasDictIn K C))))))))))
theorem xcB_ok {K : PySem.W.Frag} {C : Addr} (q : xcB K C = true) : XC K C := by
  obtain ⟨h1, q⟩ := ba q
  obtain ⟨h2, q⟩ := ba q
  obtain ⟨h3, q⟩ := ba q
  obtain ⟨h4, q⟩ := ba q
  obtain ⟨h5, q⟩ := ba q
  obtain ⟨h6, q⟩ := ba q
  obtain ⟨h7, q⟩ := ba q
  obtain ⟨h8, q⟩ := ba q
  obtain ⟨h9, q⟩ := ba q
  obtain ⟨h10, q⟩ := ba q
  obtain ⟨h11, h12⟩ := ba q
  exact ⟨⟨exB_ok h1, eqO_ok h2, eqB_ok h3, eqV_ok h4, h5⟩, eqO_ok h6, eqO_ok h7, eqO_ok h8, eqO_ok h9, eqB_ok h10, eqB_ok h11, h12⟩
end L2.My
end
section
set_option Elab.async false
set_option linter.all false
set_option maxRecDepth 100000
set_option maxHeartbeats 4000000
namespace L2.My
open PySem PySem.Spec PyProof.Rows He
/-! The head of k10: what is looked at. -/
theorem fun_of {K : PySem.W.Frag} {x q : Str} {st : Stmt} {f : Addr} {fd : FuncData} (F : FunD K x q (defArgs st) (defBody st) (defScope st) [] [] f fd) : Fun K x q st f fd := by
  obtain ⟨oc, od, dV, kV, doc, pm, an, cdv, ct, osl, e, l, c, d, _⟩ := F.ex
  rcases d with ⟨_, rfl⟩ | ⟨h, _⟩
  · exact ⟨⟨oc, od, kV, doc, pm, an, cdv, ct, osl, e, l, c⟩, F.kp⟩
  · exact absurd rfl h
def eD (x : Str) (st : Stmt) : DefD := { at_ := (x, none), name := x, qual := x, params := defArgs st, body := defBody st, scope := defScope st }
def eM (C m q : Str) (st : Stmt) : DefD := { at_ := (C, some m), name := m, qual := q, params := defArgs st, body := defBody st, scope := defScope st }
def fnK : List DefD := [eD "is_below" sBelow, eD "is_word" sWord, eD "is_number" sNumb, eD "ascends" sAsc, eD "is_pair" sPair, eD "is_member" sMemb, eD "is_leaves" sLeav, eD "is_node" sNode, eD "is_kept_node" sKept, eD "is_nodes" sNods, eD "check_leaf" sChk, eD "check_member" sCm, eD "path" sPath, eD "with_member" sWi, eD "without_member" sWo, eD "renewed" sRn, eD "_law_mixed" sMixd, eD "_law_box" sBox, eD "_law_refill" sRefill, eD "_law_draw" sDraw, eD "_law_name" sName, eD "_law_lock" sLock, eD "_law_beneath" sBen, eD "_law_tree" sTr, eD "_law_world" sWrl, eD "_law_shown" sShw, eD "_law_above" sAbv, eD "_law_added" sAdd, eD "_law_gone" sGon, eD "_law_new" sNew, eD "_law_is_name" sIsn, eD "_law_is_number" sIsu, eD "_law_odd" sOd, eD "_law_deed" sDd, eD "_law_due" sDue, eD "_law_told" sTo, eD "_law_begun" sBg, eD "law" sLaw,
  eM "BadTree" "__init__" "BadTree.__init__" sBad, eM "Tree" "__init__" "Tree.__init__" (mT 0), eM "PostError" "__init__" "PostError.__init__" sPeI, eM "Tree" "__eq__" "Tree.__eq__" (mT 1)]
def gloK : List Str := [("is_below" : Str), ("is_word" : Str), ("is_number" : Str), ("ascends" : Str), ("is_pair" : Str), ("is_member" : Str), ("is_leaves" : Str), ("is_node" : Str), ("is_kept_node" : Str), ("is_nodes" : Str), ("check_leaf" : Str), ("check_member" : Str), ("path" : Str), ("with_member" : Str), ("without_member" : Str), ("renewed" : Str), ("_law_mixed" : Str), ("_law_box" : Str), ("_law_refill" : Str), ("_law_draw" : Str), ("_law_name" : Str), ("_law_lock" : Str), ("_law_beneath" : Str), ("_law_tree" : Str), ("_law_world" : Str), ("_law_shown" : Str), ("_law_above" : Str), ("_law_added" : Str), ("_law_gone" : Str), ("_law_new" : Str), ("_law_is_name" : Str), ("_law_is_number" : Str), ("_law_odd" : Str), ("_law_deed" : Str), ("_law_due" : Str), ("_law_told" : Str), ("_law_begun" : Str), ("law" : Str), ("Tree" : Str), ("BadTree" : Str), ("PostError" : Str), ("NoName" : Str), ("NoLock" : Str), ("Named" : Str), ("TreeFull" : Str), ("NoLeaf" : Str), ("NoLocks" : Str)]
def freeK : List Str := ["isinstance", "int", "bool", "str", "len", "all", "tuple", "list", "range", "reversed", "repr", "ValueError", "enumerate", "sorted", "min"]
def noaR : List Str := ["height", "leaves", "nodes"]
def restK : List Fa := [.int "MOST_LETTERS" 12, .int "MOST_HEIGHT" 8, .cls "Tree", .mkr "Tree"]
def faK : List Fa := gloK.map .glo ++ (freeK.map .free ++ (restK ++ noaR.map (.noat "Tree")))
def exK1 (K : PySem.W.Frag) : Bool := xcB K (ga K "BadTree") && (eqO (PySem.W.findIn K (.ref (ga K "BadTree")) "part") (some none) && (eqO (PySem.W.findIn K (.ref (ga K "BadTree")) "__init__") (some (some (.ref (ma K (ga K "BadTree") "__init__")))) && (eqV (PySem.W.typeIn K (.ref (ma K (ga K "BadTree") "__init__"))) (some (.type "function")) && (eqB (PySem.W.kitOne K (.ref (ga K "BadTree")) (.ref (ga K "PostError"))) (some true) && (eqB (PySem.W.kitOne K (.ref (ga K "BadTree")) (.type "ValueError")) (some true) && (eqB (PySem.W.exmOne K (.ref (ga K "BadTree")) (.ref (ga K "BadTree"))) (some true) && (eqO (PySem.W.findIn K (.ref (ga K "Tree")) "__class__") (some (some (.builtin "object.__class__"))) && (eqO (PySem.W.specialIn K (.builtin "object.__class__") "__get__") (some (some (.builtin "getset_descriptor.__get__"))) && (eqB (PySem.W.takesIn K (.builtin "object.__class__")) (some true) && (eqB (PySem.W.mroIn K (ga K "Tree") (.type "object")) (some true) && (eqB (PySem.W.kitOne K (.ref (ga K "Tree")) (.ref (ga K "Tree"))) (some true) && (eqO (PySem.W.findIn K (.ref (ga K "Tree")) "__eq__") (some (some (.ref (ma K (ga K "Tree") "__eq__")))) && (PySem.W.isFn K (.ref (ma K (ga K "Tree") "__eq__")) && (PySem.W.notFirst K (ga K "Tree") (.ref (ga K "Tree")) && (PySem.W.notFirst K (ga K "Tree") (.type "tuple") && (eqB (PySem.W.kitOne K (.type "tuple") (.ref (ga K "Tree"))) (some false) && (eqV (PySem.W.typeIn K (.ref (ma K (ga K "PostError") "__init__"))) (some (.type "function")) && (xcB K (ga K "NoName") && (eqO (PySem.W.findIn K (.ref (ga K "NoName")) "__init__") (some (some (.ref (ma K (ga K "PostError") "__init__")))) && (eqB (PySem.W.exmOne K (.ref (ga K "NoName")) (.ref (ga K "NoName"))) (some true) && (xcB K (ga K "NoLock") && (eqO (PySem.W.findIn K (.ref (ga K "NoLock")) "__init__") (some (some (.ref (ma K (ga K "PostError") "__init__")))) && (eqB (PySem.W.exmOne K (.ref (ga K "NoLock")) (.ref (ga K "NoName"))) (some false) && (eqB (PySem.W.exmOne K (.ref (ga K "NoLock")) (.ref (ga K "NoLock"))) (some true) && (xcB K (ga K "Named") && (eqO (PySem.W.findIn K (.ref (ga K "Named")) "__init__") (some (some (.ref (ma K (ga K "PostError") "__init__")))) && (eqB (PySem.W.exmOne K (.ref (ga K "Named")) (.ref (ga K "NoName"))) (some false) && (eqB (PySem.W.exmOne K (.ref (ga K "Named")) (.ref (ga K "NoLock"))) (some false) && (eqB (PySem.W.exmOne K (.ref (ga K "Named")) (.ref (ga K "Named"))) (some true) && (xcB K (ga K "TreeFull") && (eqO (PySem.W.findIn K (.ref (ga K "TreeFull")) "__init__") (some (some (.ref (ma K (ga K "PostError") "__init__")))) && (eqB (PySem.W.exmOne K (.ref (ga K "TreeFull")) (.ref (ga K "NoName"))) (some false) && (eqB (PySem.W.exmOne K (.ref (ga K "TreeFull")) (.ref (ga K "NoLock"))) (some false) && (eqB (PySem.W.exmOne K (.ref (ga K "TreeFull")) (.ref (ga K "Named"))) (some false) && (eqB (PySem.W.exmOne K (.ref (ga K "TreeFull")) (.ref (ga K "TreeFull"))) (some true) && (xcB K (ga K "NoLeaf") && (eqO (PySem.W.findIn K (.ref (ga K "NoLeaf")) "__init__") (some (some (.ref (ma K (ga K "PostError") "__init__")))) && (eqB (PySem.W.exmOne K (.ref (ga K "NoLeaf")) (.ref (ga K "NoName"))) (some false) && (eqB (PySem.W.exmOne K (.ref (ga K "NoLeaf")) (.ref (ga K "NoLock"))) (some false) && (eqB (PySem.W.exmOne K (.ref (ga K "NoLeaf")) (.ref (ga K "Named"))) (some false) && (eqB (PySem.W.exmOne K (.ref (ga K "NoLeaf")) (.ref (ga K "TreeFull"))) (some false) && (eqB (PySem.W.exmOne K (.ref (ga K "NoLeaf")) (.ref (ga K "NoLeaf"))) (some true) && (xcB K (ga K "NoLocks") && (eqO (PySem.W.findIn K (.ref (ga K "NoLocks")) "__init__") (some (some (.ref (ma K (ga K "PostError") "__init__")))) && (eqB (PySem.W.exmOne K (.ref (ga K "NoLocks")) (.ref (ga K "NoName"))) (some false) && (eqB (PySem.W.exmOne K (.ref (ga K "NoLocks")) (.ref (ga K "NoLock"))) (some false) && (eqB (PySem.W.exmOne K (.ref (ga K "NoLocks")) (.ref (ga K "Named"))) (some false) && (eqB (PySem.W.exmOne K (.ref (ga K "NoLocks")) (.ref (ga K "TreeFull"))) (some false) && (eqB (PySem.W.exmOne K (.ref (ga K "NoLocks")) (.ref (ga K "NoLeaf"))) (some false) && (eqB (PySem.W.exmOne K (.ref (ga K "NoLocks")) (.ref (ga K "NoLocks"))) (some true)))))))))))))))))))))))))))))))))))))))))))))))))))
def tsK : List Tab := []
def tfK : List Defn := []
abbrev RK : PySem.W.OpenRow := PySem.W.OpenLaw.row PySem.Challenge.rw_strangerspost_k10_whole_trees_that_grow
abbrev hkK : PySem.W.Hook := hookX 6 faK fnK tsK tfK exK1
def obK (s : PySem.W.SharedT) : AlX := obsX 6 faK fnK tsK tfK exK1 (HandSHeadRun.getT s)
theorem obK_eq (s : PySem.W.SharedT) : obK s = hkK.obs s.abs := obsX_eq (HandSHeadRun.getT_eq s)
end L2.My
end
section
set_option Elab.async false
set_option linter.all false
set_option maxRecDepth 100000
set_option maxHeartbeats 0
namespace L2.My
open PySem PySem.Spec PyProof.Rows He
abbrev looA : List PySem.Str := ["PostError", "NoName", "NoLock", "NoLeaf", "Named", "TreeFull", "NoLocks", "BadTree", "is_below", "MOST_LETTERS", "is_word", "is_number", "ascends", "MOST_HEIGHT", "is_pair", "is_member", "is_leaves", "is_node", "is_kept_node", "is_nodes", "Tree", "check_leaf", "check_member", "path", "with_member", "without_member", "renewed"]
abbrev looB : List PySem.Str := ["_law_mixed", "_law_box", "_law_refill", "_law_draw", "_law_name", "_law_lock", "_law_beneath", "_law_tree", "_law_world", "_law_shown", "_law_above", "_law_added", "_law_gone", "_law_new", "_law_is_name", "_law_is_number", "_law_odd", "_law_deed", "_law_due", "_law_told", "_law_begun"]
theorem lawAt : RK.prog.main.body.length = 54 := by kernel_rfl
theorem law53 : (HandSHeadRun.topDef RK.prog 53).name = ("law" : PySem.Str) := by kernel_rfl
theorem run (w : World) : HandSHeadRun.RunEq RK (PySem.W.view RK.prog [53]) hkK obK 12000 (looA ++ looB) w := by
  intro os
  kernel_rfl
end L2.My
end
section
set_option Elab.async false
set_option linter.all false
set_option maxRecDepth 100000
set_option maxHeartbeats 4000000
namespace L2.My
open PySem PySem.Spec PyProof.Rows He LamX
section
variable {P : Program} {w : World} {K : PySem.W.Frag} {mg : Str → Option Value} {h0 base : Heap}
abbrev SX (w : World) (h : Heap) (K : PySem.W.Frag) : Prop := SaysX faK fnK tsK tfK exK1 w h K
theorem defAt (c : SX w h0 K) (i : Nat) {x : Str} {st : Stmt} (h : fnK[i]? = some (eD x st) := by rfl) : ∃ fd, Fun K x x st (ga K x) fd := by
  obtain ⟨fd, F⟩ := c.t.d.def_ i (d := eD x st) h
  exact ⟨fd, fun_of F⟩
theorem mthAt (c : SX w h0 K) (i : Nat) {C m q : Str} {st : Stmt} (h : fnK[i]? = some (eM C m q st) := by rfl) : ∃ fd, Fun K m q st (ma K (ga K C) m) fd := by
  obtain ⟨fd, F⟩ := c.t.d.def_ i (d := eM C m q st) h
  exact ⟨fd, fun_of F⟩
theorem factM (c : SX w h0 K) {f : Fa} (h : f ∈ faK) : f.ok K = true := c.t.d.facts h
theorem gloM (X : K.In h0) (G : h0.Ns mainGlobals mg) (c : SX w h0 K) {x : Str} (h : x ∈ gloK := by decide +kernel) : mg x = some (.ref (ga K x)) := glo_ok X G (factM c (List.mem_append_left _ (List.mem_map_of_mem h)))
theorem freeM (X : K.In h0) (G : h0.Ns mainGlobals mg) (c : SX w h0 K) {x : Str} (h : x ∈ freeK := by decide +kernel) : mg x = none := free_ok X G (factM c (List.mem_append_right _ (List.mem_append_left _ (List.mem_map_of_mem h))))
theorem restM (c : SX w h0 K) (i : Nat) {f : Fa} (h : restK[i]? = some f := by rfl) : f.ok K = true := factM c (List.mem_append_right _ (List.mem_append_right _ (List.mem_append_left _ (List.mem_of_getElem? h))))
theorem trC (c : SX w h0 K) : TrC K (ga K "Tree") := ⟨cls_ok (restM c 2), fun f hf => noat_ok (factM c (List.mem_append_right _ (List.mem_append_right _ (List.mem_append_right _ (List.mem_map_of_mem (show f ∈ noaR from hf))))))⟩
theorem txt (X : K.In h0) (G : h0.Ns mainGlobals mg) (c : SX w h0 K) : Tx mg :=
  ⟨freeM X G c, freeM X G c, freeM X G c, freeM X G c, freeM X G c, freeM X G c, freeM X G c, freeM X G c, freeM X G c, freeM X G c, freeM X G c, int_ok X G (restM c 0), int_ok X G (restM c 1)⟩
structure MoreK (K : PySem.W.Frag) : Prop where
  x : XC K (ga K "BadTree")
  no : PySem.W.findIn K (.ref (ga K "BadTree")) "part" = some none
  i : PySem.W.findIn K (.ref (ga K "BadTree")) "__init__" = some (some (.ref (ma K (ga K "BadTree") "__init__")))
  t : PySem.W.typeIn K (.ref (ma K (ga K "BadTree") "__init__")) = some (.type "function")
  kP : PySem.W.kitOne K (.ref (ga K "BadTree")) (.ref (ga K "PostError")) = some true
  kV : PySem.W.kitOne K (.ref (ga K "BadTree")) (.type "ValueError") = some true
  te : PySem.W.exmOne K (.ref (ga K "BadTree")) (.ref (ga K "BadTree")) = some true
  ha : PySem.W.findIn K (.ref (ga K "Tree")) "__class__" = some (some (.builtin "object.__class__"))
  hn : PySem.W.specialIn K (.builtin "object.__class__") "__get__" = some (some (.builtin "getset_descriptor.__get__"))
  htk : PySem.W.takesIn K (.builtin "object.__class__") = some true
  hm : PySem.W.mroIn K (ga K "Tree") (.type "object") = some true
  self : PySem.W.kitOne K (.ref (ga K "Tree")) (.ref (ga K "Tree")) = some true
  hs : PySem.W.findIn K (.ref (ga K "Tree")) "__eq__" = some (some (.ref (ma K (ga K "Tree") "__eq__")))
  hf : PySem.W.isFn K (.ref (ma K (ga K "Tree") "__eq__")) = true
  nf : PySem.W.notFirst K (ga K "Tree") (.ref (ga K "Tree")) = true
  nt : PySem.W.notFirst K (ga K "Tree") (.type "tuple") = true
  kt : PySem.W.kitOne K (.type "tuple") (.ref (ga K "Tree")) = some false
  tP : PySem.W.typeIn K (.ref (ma K (ga K "PostError") "__init__")) = some (.type "function")
  x0 : XC K (ga K "NoName")
  i0 : PySem.W.findIn K (.ref (ga K "NoName")) "__init__" = some (some (.ref (ma K (ga K "PostError") "__init__")))
  e00 : PySem.W.exmOne K (.ref (ga K "NoName")) (.ref (ga K "NoName")) = some true
  x1 : XC K (ga K "NoLock")
  i1 : PySem.W.findIn K (.ref (ga K "NoLock")) "__init__" = some (some (.ref (ma K (ga K "PostError") "__init__")))
  e10 : PySem.W.exmOne K (.ref (ga K "NoLock")) (.ref (ga K "NoName")) = some false
  e11 : PySem.W.exmOne K (.ref (ga K "NoLock")) (.ref (ga K "NoLock")) = some true
  x2 : XC K (ga K "Named")
  i2 : PySem.W.findIn K (.ref (ga K "Named")) "__init__" = some (some (.ref (ma K (ga K "PostError") "__init__")))
  e20 : PySem.W.exmOne K (.ref (ga K "Named")) (.ref (ga K "NoName")) = some false
  e21 : PySem.W.exmOne K (.ref (ga K "Named")) (.ref (ga K "NoLock")) = some false
  e22 : PySem.W.exmOne K (.ref (ga K "Named")) (.ref (ga K "Named")) = some true
  x3 : XC K (ga K "TreeFull")
  i3 : PySem.W.findIn K (.ref (ga K "TreeFull")) "__init__" = some (some (.ref (ma K (ga K "PostError") "__init__")))
  e30 : PySem.W.exmOne K (.ref (ga K "TreeFull")) (.ref (ga K "NoName")) = some false
  e31 : PySem.W.exmOne K (.ref (ga K "TreeFull")) (.ref (ga K "NoLock")) = some false
  e32 : PySem.W.exmOne K (.ref (ga K "TreeFull")) (.ref (ga K "Named")) = some false
  e33 : PySem.W.exmOne K (.ref (ga K "TreeFull")) (.ref (ga K "TreeFull")) = some true
  x4 : XC K (ga K "NoLeaf")
  i4 : PySem.W.findIn K (.ref (ga K "NoLeaf")) "__init__" = some (some (.ref (ma K (ga K "PostError") "__init__")))
  e40 : PySem.W.exmOne K (.ref (ga K "NoLeaf")) (.ref (ga K "NoName")) = some false
  e41 : PySem.W.exmOne K (.ref (ga K "NoLeaf")) (.ref (ga K "NoLock")) = some false
  e42 : PySem.W.exmOne K (.ref (ga K "NoLeaf")) (.ref (ga K "Named")) = some false
  e43 : PySem.W.exmOne K (.ref (ga K "NoLeaf")) (.ref (ga K "TreeFull")) = some false
  e44 : PySem.W.exmOne K (.ref (ga K "NoLeaf")) (.ref (ga K "NoLeaf")) = some true
  x5 : XC K (ga K "NoLocks")
  i5 : PySem.W.findIn K (.ref (ga K "NoLocks")) "__init__" = some (some (.ref (ma K (ga K "PostError") "__init__")))
  e50 : PySem.W.exmOne K (.ref (ga K "NoLocks")) (.ref (ga K "NoName")) = some false
  e51 : PySem.W.exmOne K (.ref (ga K "NoLocks")) (.ref (ga K "NoLock")) = some false
  e52 : PySem.W.exmOne K (.ref (ga K "NoLocks")) (.ref (ga K "Named")) = some false
  e53 : PySem.W.exmOne K (.ref (ga K "NoLocks")) (.ref (ga K "TreeFull")) = some false
  e54 : PySem.W.exmOne K (.ref (ga K "NoLocks")) (.ref (ga K "NoLeaf")) = some false
  e55 : PySem.W.exmOne K (.ref (ga K "NoLocks")) (.ref (ga K "NoLocks")) = some true
theorem moreK (c : SX w h0 K) : MoreK K := by
  have m := c.more
  unfold exK1 at m
  obtain ⟨m0, m⟩ := ba m
  obtain ⟨m1, m⟩ := ba m
  obtain ⟨m2, m⟩ := ba m
  obtain ⟨m3, m⟩ := ba m
  obtain ⟨m4, m⟩ := ba m
  obtain ⟨m5, m⟩ := ba m
  obtain ⟨m6, m⟩ := ba m
  obtain ⟨m7, m⟩ := ba m
  obtain ⟨m8, m⟩ := ba m
  obtain ⟨m9, m⟩ := ba m
  obtain ⟨m10, m⟩ := ba m
  obtain ⟨m11, m⟩ := ba m
  obtain ⟨m12, m⟩ := ba m
  obtain ⟨m13, m⟩ := ba m
  obtain ⟨m14, m⟩ := ba m
  obtain ⟨m15, m⟩ := ba m
  obtain ⟨m16, m⟩ := ba m
  obtain ⟨m17, m⟩ := ba m
  obtain ⟨m18, m⟩ := ba m
  obtain ⟨m19, m⟩ := ba m
  obtain ⟨m20, m⟩ := ba m
  obtain ⟨m21, m⟩ := ba m
  obtain ⟨m22, m⟩ := ba m
  obtain ⟨m23, m⟩ := ba m
  obtain ⟨m24, m⟩ := ba m
  obtain ⟨m25, m⟩ := ba m
  obtain ⟨m26, m⟩ := ba m
  obtain ⟨m27, m⟩ := ba m
  obtain ⟨m28, m⟩ := ba m
  obtain ⟨m29, m⟩ := ba m
  obtain ⟨m30, m⟩ := ba m
  obtain ⟨m31, m⟩ := ba m
  obtain ⟨m32, m⟩ := ba m
  obtain ⟨m33, m⟩ := ba m
  obtain ⟨m34, m⟩ := ba m
  obtain ⟨m35, m⟩ := ba m
  obtain ⟨m36, m⟩ := ba m
  obtain ⟨m37, m⟩ := ba m
  obtain ⟨m38, m⟩ := ba m
  obtain ⟨m39, m⟩ := ba m
  obtain ⟨m40, m⟩ := ba m
  obtain ⟨m41, m⟩ := ba m
  obtain ⟨m42, m⟩ := ba m
  obtain ⟨m43, m⟩ := ba m
  obtain ⟨m44, m⟩ := ba m
  obtain ⟨m45, m⟩ := ba m
  obtain ⟨m46, m⟩ := ba m
  obtain ⟨m47, m⟩ := ba m
  obtain ⟨m48, m⟩ := ba m
  obtain ⟨m49, m50⟩ := ba m
  exact ⟨xcB_ok m0, eqO_ok m1, eqO_ok m2, eqV_ok m3, eqB_ok m4, eqB_ok m5, eqB_ok m6, eqO_ok m7, eqO_ok m8, eqB_ok m9, eqB_ok m10, eqB_ok m11, eqO_ok m12, m13, m14, m15, eqB_ok m16, eqV_ok m17, xcB_ok m18, eqO_ok m19, eqB_ok m20, xcB_ok m21, eqO_ok m22, eqB_ok m23, eqB_ok m24, xcB_ok m25, eqO_ok m26, eqB_ok m27, eqB_ok m28, eqB_ok m29, xcB_ok m30, eqO_ok m31, eqB_ok m32, eqB_ok m33, eqB_ok m34, eqB_ok m35, xcB_ok m36, eqO_ok m37, eqB_ok m38, eqB_ok m39, eqB_ok m40, eqB_ok m41, eqB_ok m42, xcB_ok m43, eqO_ok m44, eqB_ok m45, eqB_ok m46, eqB_ok m47, eqB_ok m48, eqB_ok m49, eqB_ok m50⟩
def calAt {k : Nat} {x : Str} {ps : List Str} {sp : Sp} {fd : FuncData} {st : Stmt} (X : K.In h0) (G : h0.Ns mainGlobals mg) (c : SX w h0 K) (F : Fun K x x st (ga K x) fd) (H : FnOk P w K mg base CX0 k (ga K x) fd ps sp) (b : Binds K fd ps []) (h : x ∈ gloK := by decide +kernel) : Cal P w K mg base k x ps sp := ⟨ga K x, fd, H, F.kp, gloM X G c h, b⟩
def calxAt {k : Nat} {x : Str} {ps : List Str} {sp : Sp} {fd : FuncData} {st : Stmt} (X : K.In h0) (G : h0.Ns mainGlobals mg) (c : SX w h0 K) (F : Fun K x x st (ga K x) fd) (H : FnOk P w K mg base (CX P w) k (ga K x) fd ps sp) (b : Binds K fd ps []) (h : x ∈ gloK := by decide +kernel) : CalX P w K mg base k x ps sp := ⟨ga K x, fd, H, F.kp, gloM X G c h, b⟩
end
end L2.My
end
section
set_option Elab.async false
set_option linter.all false
set_option maxRecDepth 100000
set_option maxHeartbeats 4000000
namespace L2.My
open PySem PySem.Spec PyProof.Rows He LamX
section
variable {P : Program} {w : World} {K : PySem.W.Frag} {mg : Str → Option Value} {h0 : Heap}
theorem facts {f : Addr} (X : K.In h0) (G : h0.Ns mainGlobals mg) (hfa : mg ("law" : Str) = some (.ref f)) (c : SX w h0 K) :
    ∃ fd : FuncData, (∀ (s : Shared) (v : Value), BindsTo s fd ⟨[v], []⟩ [("script", v)]) ∧ ∀ base : Heap, K.In base → base.Ns mainGlobals mg → FnOkG P w K mg base 10 f fd ["script"] (spLaw K) := by
  have e := hfa.symm.trans (gloM X G c (x := "law"))
  cases e
  obtain ⟨fdLaw, FLaw⟩ := defAt c 37 (x := "law") (st := sLaw)
  refine ⟨fdLaw, fun s v => ?_, fun base _ _ => ?_⟩
  · obtain ⟨oc, od, kV, doc, pm, an, cdv, ct, osl, rfl, lk, hcd⟩ := FLaw.ex
    exact .of_eq rfl
  have T := txt X G c
  have tc := trC c
  have m := moreK c
  have ti : TrI K (ga K "Tree") := ⟨m.ha, m.hn, m.htk, m.hm, m.self⟩
  obtain ⟨fdBel, FBel⟩ := defAt c 0 (x := "is_below") (st := sBelow)
  obtain ⟨fdWor, FWor⟩ := defAt c 1 (x := "is_word") (st := sWord)
  obtain ⟨fdNub, FNub⟩ := defAt c 2 (x := "is_number") (st := sNumb)
  obtain ⟨fdAsc, FAsc⟩ := defAt c 3 (x := "ascends") (st := sAsc)
  obtain ⟨fdPai, FPai⟩ := defAt c 4 (x := "is_pair") (st := sPair)
  obtain ⟨fdMem, FMem⟩ := defAt c 5 (x := "is_member") (st := sMemb)
  obtain ⟨fdLea, FLea⟩ := defAt c 6 (x := "is_leaves") (st := sLeav)
  obtain ⟨fdNod, FNod⟩ := defAt c 7 (x := "is_node") (st := sNode)
  obtain ⟨fdKep, FKep⟩ := defAt c 8 (x := "is_kept_node") (st := sKept)
  obtain ⟨fdNds, FNds⟩ := defAt c 9 (x := "is_nodes") (st := sNods)
  obtain ⟨fdChk, FChk⟩ := defAt c 10 (x := "check_leaf") (st := sChk)
  obtain ⟨fdChm, FChm⟩ := defAt c 11 (x := "check_member") (st := sCm)
  obtain ⟨fdPth, FPth⟩ := defAt c 12 (x := "path") (st := sPath)
  obtain ⟨fdWim, FWim⟩ := defAt c 13 (x := "with_member") (st := sWi)
  obtain ⟨fdWom, FWom⟩ := defAt c 14 (x := "without_member") (st := sWo)
  obtain ⟨fdRnw, FRnw⟩ := defAt c 15 (x := "renewed") (st := sRn)
  obtain ⟨fdMix, FMix⟩ := defAt c 16 (x := "_law_mixed") (st := sMixd)
  obtain ⟨fdBox, FBox⟩ := defAt c 17 (x := "_law_box") (st := sBox)
  obtain ⟨fdRef, FRef⟩ := defAt c 18 (x := "_law_refill") (st := sRefill)
  obtain ⟨fdDra, FDra⟩ := defAt c 19 (x := "_law_draw") (st := sDraw)
  obtain ⟨fdNam, FNam⟩ := defAt c 20 (x := "_law_name") (st := sName)
  obtain ⟨fdLoc, FLoc⟩ := defAt c 21 (x := "_law_lock") (st := sLock)
  obtain ⟨fdBen, FBen⟩ := defAt c 22 (x := "_law_beneath") (st := sBen)
  obtain ⟨fdTre, FTre⟩ := defAt c 23 (x := "_law_tree") (st := sTr)
  obtain ⟨fdWrl, FWrl⟩ := defAt c 24 (x := "_law_world") (st := sWrl)
  obtain ⟨fdShw, FShw⟩ := defAt c 25 (x := "_law_shown") (st := sShw)
  obtain ⟨fdAbv, FAbv⟩ := defAt c 26 (x := "_law_above") (st := sAbv)
  obtain ⟨fdAdd, FAdd⟩ := defAt c 27 (x := "_law_added") (st := sAdd)
  obtain ⟨fdGon, FGon⟩ := defAt c 28 (x := "_law_gone") (st := sGon)
  obtain ⟨fdNew, FNew⟩ := defAt c 29 (x := "_law_new") (st := sNew)
  obtain ⟨fdIsn, FIsn⟩ := defAt c 30 (x := "_law_is_name") (st := sIsn)
  obtain ⟨fdIsu, FIsu⟩ := defAt c 31 (x := "_law_is_number") (st := sIsu)
  obtain ⟨fdOd, FOd⟩ := defAt c 32 (x := "_law_odd") (st := sOd)
  obtain ⟨fdDd, FDd⟩ := defAt c 33 (x := "_law_deed") (st := sDd)
  obtain ⟨fdDue, FDue⟩ := defAt c 34 (x := "_law_due") (st := sDue)
  obtain ⟨fdTol, FTol⟩ := defAt c 35 (x := "_law_told") (st := sTo)
  obtain ⟨fdBg, FBg⟩ := defAt c 36 (x := "_law_begun") (st := sBg)
  obtain ⟨fdBI, FBI⟩ := mthAt c 38 (C := "BadTree") (m := "__init__") (q := "BadTree.__init__") (st := sBad)
  obtain ⟨fdRI, FRI⟩ := mthAt c 39 (C := "Tree") (m := "__init__") (q := "Tree.__init__") (st := mT 0)
  obtain ⟨fdPI, FPI⟩ := mthAt c 40 (C := "PostError") (m := "__init__") (q := "PostError.__init__") (st := sPeI)
  obtain ⟨fdRE, FRE⟩ := mthAt c 41 (C := "Tree") (m := "__eq__") (q := "Tree.__eq__") (st := mT 1)
  have bBel : Binds K fdBel ["bound", "thing"] [] := FBel.binds (ps := ["bound", "thing"]) fun _ _ _ _ _ _ us hl => match us, hl with | [_, _], _ => rfl
  have bWor : Binds K fdWor ["thing"] [] := FWor.binds (ps := ["thing"]) fun _ _ _ _ _ _ us hl => match us, hl with | [_], _ => rfl
  have bNub : Binds K fdNub ["thing"] [] := FNub.binds (ps := ["thing"]) fun _ _ _ _ _ _ us hl => match us, hl with | [_], _ => rfl
  have bAsc : Binds K fdAsc ["things"] [] := FAsc.binds (ps := ["things"]) fun _ _ _ _ _ _ us hl => match us, hl with | [_], _ => rfl
  have bPai : Binds K fdPai ["thing"] [] := FPai.binds (ps := ["thing"]) fun _ _ _ _ _ _ us hl => match us, hl with | [_], _ => rfl
  have bMem : Binds K fdMem ["thing"] [] := FMem.binds (ps := ["thing"]) fun _ _ _ _ _ _ us hl => match us, hl with | [_], _ => rfl
  have bLea : Binds K fdLea ["height", "thing"] [] := FLea.binds (ps := ["height", "thing"]) fun _ _ _ _ _ _ us hl => match us, hl with | [_, _], _ => rfl
  have bNod : Binds K fdNod ["height", "thing"] [] := FNod.binds (ps := ["height", "thing"]) fun _ _ _ _ _ _ us hl => match us, hl with | [_, _], _ => rfl
  have bKep : Binds K fdKep ["height", "leaves", "thing"] [] := FKep.binds (ps := ["height", "leaves", "thing"]) fun _ _ _ _ _ _ us hl => match us, hl with | [_, _, _], _ => rfl
  have bNds : Binds K fdNds ["height", "leaves", "thing"] [] := FNds.binds (ps := ["height", "leaves", "thing"]) fun _ _ _ _ _ _ us hl => match us, hl with | [_, _, _], _ => rfl
  have bChk : Binds K fdChk ["tree", "leaf"] [] := FChk.binds (ps := ["tree", "leaf"]) fun _ _ _ _ _ _ us hl => match us, hl with | [_, _], _ => rfl
  have bChm : Binds K fdChm ["tree", "leaf"] [] := FChm.binds (ps := ["tree", "leaf"]) fun _ _ _ _ _ _ us hl => match us, hl with | [_, _], _ => rfl
  have bPth : Binds K fdPth ["tree", "leaf"] [] := FPth.binds (ps := ["tree", "leaf"]) fun _ _ _ _ _ _ us hl => match us, hl with | [_, _], _ => rfl
  have bWim : Binds K fdWim ["tree", "name", "lock"] [] := FWim.binds (ps := ["tree", "name", "lock"]) fun _ _ _ _ _ _ us hl => match us, hl with | [_, _, _], _ => rfl
  have bWom : Binds K fdWom ["tree", "leaf"] [] := FWom.binds (ps := ["tree", "leaf"]) fun _ _ _ _ _ _ us hl => match us, hl with | [_, _], _ => rfl
  have bRnw : Binds K fdRnw ["tree", "leaf", "locks"] [] := FRnw.binds (ps := ["tree", "leaf", "locks"]) fun _ _ _ _ _ _ us hl => match us, hl with | [_, _, _], _ => rfl
  have bMix : Binds K fdMix ["number", "place"] [] := FMix.binds (ps := ["number", "place"]) fun _ _ _ _ _ _ us hl => match us, hl with | [_, _], _ => rfl
  have bBox : Binds K fdBox ["script"] [] := FBox.binds (ps := ["script"]) fun _ _ _ _ _ _ us hl => match us, hl with | [_], _ => rfl
  have bRef : Binds K fdRef ["box"] [] := FRef.binds (ps := ["box"]) fun _ _ _ _ _ _ us hl => match us, hl with | [_], _ => rfl
  have bDra : Binds K fdDra ["box", "menu"] [] := FDra.binds (ps := ["box", "menu"]) fun _ _ _ _ _ _ us hl => match us, hl with | [_, _], _ => rfl
  have bNam : Binds K fdNam ["box"] [] := FNam.binds (ps := ["box"]) fun _ _ _ _ _ _ us hl => match us, hl with | [_], _ => rfl
  have bLoc : Binds K fdLoc ["box"] [] := FLoc.binds (ps := ["box"]) fun _ _ _ _ _ _ us hl => match us, hl with | [_], _ => rfl
  have bBen : Binds K fdBen ["node"] [] := FBen.binds (ps := ["node"]) fun _ _ _ _ _ _ us hl => match us, hl with | [_], _ => rfl
  have bTre : Binds K fdTre ["box", "most"] [] := FTre.binds (ps := ["box", "most"]) fun _ _ _ _ _ _ us hl => match us, hl with | [_, _], _ => rfl
  have bWrl : Binds K fdWrl ["parts"] [] := FWrl.binds (ps := ["parts"]) fun _ _ _ _ _ _ us hl => match us, hl with | [_], _ => rfl
  have bShw : Binds K fdShw ["w"] [] := FShw.binds (ps := ["w"]) fun _ _ _ _ _ _ us hl => match us, hl with | [_], _ => rfl
  have bAbv : Binds K fdAbv ["w", "leaf"] [] := FAbv.binds (ps := ["w", "leaf"]) fun _ _ _ _ _ _ us hl => match us, hl with | [_, _], _ => rfl
  have bAdd : Binds K fdAdd ["w", "name", "lock"] [] := FAdd.binds (ps := ["w", "name", "lock"]) fun _ _ _ _ _ _ us hl => match us, hl with | [_, _, _], _ => rfl
  have bGon : Binds K fdGon ["w", "leaf"] [] := FGon.binds (ps := ["w", "leaf"]) fun _ _ _ _ _ _ us hl => match us, hl with | [_, _], _ => rfl
  have bNew : Binds K fdNew ["w", "leaf", "locks"] [] := FNew.binds (ps := ["w", "leaf", "locks"]) fun _ _ _ _ _ _ us hl => match us, hl with | [_, _, _], _ => rfl
  have bIsn : Binds K fdIsn ["thing"] [] := FIsn.binds (ps := ["thing"]) fun _ _ _ _ _ _ us hl => match us, hl with | [_], _ => rfl
  have bIsu : Binds K fdIsu ["thing"] [] := FIsu.binds (ps := ["thing"]) fun _ _ _ _ _ _ us hl => match us, hl with | [_], _ => rfl
  have bOd : Binds K fdOd ["box"] [] := FOd.binds (ps := ["box"]) fun _ _ _ _ _ _ us hl => match us, hl with | [_], _ => rfl
  have bDd : Binds K fdDd ["box", "w"] [] := FDd.binds (ps := ["box", "w"]) fun _ _ _ _ _ _ us hl => match us, hl with | [_, _], _ => rfl
  have bDue : Binds K fdDue ["w", "deed"] [] := FDue.binds (ps := ["w", "deed"]) fun _ _ _ _ _ _ us hl => match us, hl with | [_, _], _ => rfl
  have bTol : Binds K fdTol ["tree", "deed"] [] := FTol.binds (ps := ["tree", "deed"]) fun _ _ _ _ _ _ us hl => match us, hl with | [_, _], _ => rfl
  have bBg : Binds K fdBg ["box"] [] := FBg.binds (ps := ["box"]) fun _ _ _ _ _ _ us hl => match us, hl with | [_], _ => rfl
  have bBI : Binds K fdBI ["self", "part"] [] := FBI.binds (ps := ["self", "part"]) fun _ _ _ _ _ _ us hl => match us, hl with | [_, _], _ => rfl
  have bRI : Binds K fdRI ["self", "height", "leaves", "nodes"] [] := FRI.binds (ps := ["self", "height", "leaves", "nodes"]) fun _ _ _ _ _ _ us hl => match us, hl with | [_, _, _, _], _ => rfl
  have bPI : Binds K fdPI ["self"] [] := FPI.binds (ps := ["self"]) fun _ _ _ _ _ _ us hl => match us, hl with | [_], _ => rfl
  have bRE : Binds K fdRE ["self", "other"] [] := FRE.binds (ps := ["self", "other"]) fun _ _ _ _ _ _ us hl => match us, hl with | [_, _], _ => rfl
  have cB1 : Cal P w K mg base 1 "is_below" ["bound", "thing"] spBelow := calAt X G c FBel (ok_below (k := 0) FBel T) bBel
  have cB2 : Cal P w K mg base 2 "is_below" ["bound", "thing"] spBelow := calAt X G c FBel (ok_below (k := 1) FBel T) bBel
  have cB4 : Cal P w K mg base 4 "is_below" ["bound", "thing"] spBelow := calAt X G c FBel (ok_below (k := 3) FBel T) bBel
  have cW2 : Cal P w K mg base 2 "is_word" ["thing"] spWord := calAt X G c FWor (ok_word (k := 1) FWor T) bWor
  have cU2 : Cal P w K mg base 2 "is_number" ["thing"] spNumb := calAt X G c FNub (ok_numb (k := 1) FNub T) bNub
  have cA2 : Cal P w K mg base 2 "ascends" ["things"] spAsc := calAt X G c FAsc (ok_asc (k := 1) FAsc T) bAsc
  have cA3 : Cal P w K mg base 3 "ascends" ["things"] spAsc := calAt X G c FAsc (ok_asc (k := 2) FAsc T) bAsc
  have cP1 : Cal P w K mg base 1 "is_pair" ["thing"] spPair := calAt X G c FPai (ok_pair (k := 0) FPai T) bPai
  have cP2 : Cal P w K mg base 2 "is_pair" ["thing"] spPair := calAt X G c FPai (ok_pair (k := 1) FPai T) bPai
  have cM3 : Cal P w K mg base 3 "is_member" ["thing"] spMemb := calAt X G c FMem (ok_memb (k := 1) FMem T cP2 cW2 cU2) bMem
  have cL4 : Cal P w K mg base 4 "is_leaves" ["height", "thing"] spLeav := calAt X G c FLea (ok_leav (k := 1) FLea T cM3) bLea
  have cN2 : Cal P w K mg base 2 "is_node" ["height", "thing"] spNode := calAt X G c FNod (ok_node (k := 0) FNod T cP1 cB1) bNod
  have cK3 : Cal P w K mg base 3 "is_kept_node" ["height", "leaves", "thing"] spKept := calAt X G c FKep (ok_kept (k := 0) FKep T cN2 cU2 cB2 cA2) bKep
  have cS4 : Cal P w K mg base 4 "is_nodes" ["height", "leaves", "thing"] spNods := calAt X G c FNds (ok_nods (k := 0) FNds T cK3 cA3) bNds
  have N : BadC P w K mg base (ga K "BadTree") := ⟨m.x, m.no, _, fdBI, m.i, m.t, ok_bad FBI m.x.o m.no, bBI, gloM X G c, ga K "PostError", gloM X G c, freeM X G c, m.kP, m.kV, m.te⟩
  have R : MkT P w K mg base 5 (ga K "Tree") (ga K "BadTree") := ⟨_, fdRI, mkr_ok (restM c 3), ok_tree (k := 0) FRI T tc N cB4 cL4 cS4, gloM X G c, bRI⟩
  have eR : EqT P w K mg base 1 (ga K "Tree") := ⟨_, fdRE, ok_eq (k := 0) FRE T tc ti (gloM X G c), m.hs, m.hf, bRE, m.nf, m.nt, m.kt⟩
  have n0 : NoC P w K mg base "NoName" (ga K "NoName") := ⟨ini0_of FPI m.x0.o m.i0 m.tP, gloM X G c⟩
  have n1 : NoC P w K mg base "NoLock" (ga K "NoLock") := ⟨ini0_of FPI m.x1.o m.i1 m.tP, gloM X G c⟩
  have n2 : NoC P w K mg base "Named" (ga K "Named") := ⟨ini0_of FPI m.x2.o m.i2 m.tP, gloM X G c⟩
  have n3 : NoC P w K mg base "TreeFull" (ga K "TreeFull") := ⟨ini0_of FPI m.x3.o m.i3 m.tP, gloM X G c⟩
  have n4 : NoC P w K mg base "NoLeaf" (ga K "NoLeaf") := ⟨ini0_of FPI m.x4.o m.i4 m.tP, gloM X G c⟩
  have n5 : NoC P w K mg base "NoLocks" (ga K "NoLocks") := ⟨ini0_of FPI m.x5.o m.i5 m.tP, gloM X G c⟩
  have M : ErK K mg (ga K "NoName") (ga K "NoLock") (ga K "Named") (ga K "TreeFull") (ga K "NoLeaf") (ga K "NoLocks") (ga K "PostError") := ⟨gloM X G c, gloM X G c, gloM X G c, gloM X G c, gloM X G c, gloM X G c, gloM X G c, m.e00, m.e10, m.e11, m.e20, m.e21, m.e22, m.e30, m.e31, m.e32, m.e33, m.e40, m.e41, m.e42, m.e43, m.e44, m.e50, m.e51, m.e52, m.e53, m.e54, m.e55⟩
  have cCh3 : CalX P w K mg base 3 "check_leaf" ["tree", "leaf"] (spChk (ga K "Tree") (ga K "NoLeaf")) := calxAt X G c FChk (ok_chk (k := 0) FChk T tc n4 cB2) bChk
  have cCm4 : CalX P w K mg base 4 "check_member" ["tree", "leaf"] (spCm (ga K "Tree") (ga K "NoLeaf")) := calxAt X G c FChm (ok_cm (k := 0) FChm T tc n4 cCh3) bChm
  have cPt4 : CalX P w K mg base 4 "path" ["tree", "leaf"] (spWay (ga K "Tree") (ga K "NoLeaf") pathL) := calxAt X G c FPth (ok_path (k := 0) FPth T tc cCh3) bPth
  have cWi7 : CalX P w K mg base 7 "with_member" ["tree", "name", "lock"] (spWi (ga K "Tree") (ga K "NoName") (ga K "NoLock") (ga K "Named") (ga K "TreeFull")) := calxAt X G c FWim (ok_wi (k := 0) FWim T (freeM X G c) tc R n0 n1 n2 n3 cW2 cU2) bWim
  have cWo7 : CalX P w K mg base 7 "without_member" ["tree", "leaf"] (spWo (ga K "Tree") (ga K "NoLeaf")) := calxAt X G c FWom (ok_wo (k := 0) FWom T tc R cCm4) bWom
  have cRn7 : CalX P w K mg base 7 "renewed" ["tree", "leaf", "locks"] (spRn (ga K "Tree") (ga K "NoLeaf") (ga K "NoLocks")) := calxAt X G c FRnw (ok_rn (k := 0) FRnw T (freeM X G c) tc R n5 cCm4 cU2 cPt4) bRnw
  have cX1 : Cal P w K mg base 1 "_law_mixed" ["number", "place"] spMixd := calAt X G c FMix (ok_mixd (k := 0) FMix T) bMix
  have cX2 : Cal P w K mg base 2 "_law_mixed" ["number", "place"] spMixd := calAt X G c FMix (ok_mixd (k := 1) FMix T) bMix
  have cX3 : Cal P w K mg base 3 "_law_mixed" ["number", "place"] spMixd := calAt X G c FMix (ok_mixd (k := 2) FMix T) bMix
  have cX4 : Cal P w K mg base 4 "_law_mixed" ["number", "place"] spMixd := calAt X G c FMix (ok_mixd (k := 3) FMix T) bMix
  have cBx1 : Cal P w K mg base 1 "_law_box" ["script"] (spBox K) := calAt X G c FBox (ok_box (k := 0) FBox T) bBox
  have cRf2 : Cal P w K mg base 2 "_law_refill" ["box"] spRefill := calAt X G c FRef (ok_refill (k := 0) FRef T cX1) bRef
  have cRf3 : Cal P w K mg base 3 "_law_refill" ["box"] spRefill := calAt X G c FRef (ok_refill (k := 1) FRef T cX2) bRef
  have cRf4 : Cal P w K mg base 4 "_law_refill" ["box"] spRefill := calAt X G c FRef (ok_refill (k := 2) FRef T cX3) bRef
  have cD3 : Cal P w K mg base 3 "_law_draw" ["box", "menu"] spDraw := calAt X G c FDra (ok_draw (k := 0) FDra T cX2 cRf2) bDra
  have cD4 : Cal P w K mg base 4 "_law_draw" ["box", "menu"] spDraw := calAt X G c FDra (ok_draw (k := 1) FDra T cX3 cRf3) bDra
  have cD5 : Cal P w K mg base 5 "_law_draw" ["box", "menu"] spDraw := calAt X G c FDra (ok_draw (k := 2) FDra T cX4 cRf4) bDra
  have cNm4 : Cal P w K mg base 4 "_law_name" ["box"] spName := calAt X G c FNam (ok_name (k := 0) FNam T cD3) bNam
  have cNm5 : Cal P w K mg base 5 "_law_name" ["box"] spName := calAt X G c FNam (ok_name (k := 1) FNam T cD4) bNam
  have cLo4 : Cal P w K mg base 4 "_law_lock" ["box"] spLock := calAt X G c FLoc (ok_lock (k := 0) FLoc T cD3) bLoc
  have cLo5 : Cal P w K mg base 5 "_law_lock" ["box"] spLock := calAt X G c FLoc (ok_lock (k := 1) FLoc T cD4) bLoc
  have cBn4 : Cal P w K mg base 4 "_law_beneath" ["node"] spBen := calAt X G c FBen (ok_ben (k := 3) FBen T) bBen
  have cTr5 : Cal P w K mg base 5 "_law_tree" ["box", "most"] spTr := calAt X G c FTre (ok_ltree (k := 0) FTre T cD4 cBn4 cNm4 cLo4) bTre
  have cWr1 : Cal P w K mg base 1 "_law_world" ["parts"] spWrl := calAt X G c FWrl (ok_wrl (k := 0) FWrl T) bWrl
  have cSh1 : Cal P w K mg base 1 "_law_shown" ["w"] spShw := calAt X G c FShw (ok_shw (k := 0) FShw T (freeM X G c)) bShw
  have cAb2 : Cal P w K mg base 2 "_law_above" ["w", "leaf"] spAbv := calAt X G c FAbv (ok_abv (k := 1) FAbv T) bAbv
  have cAd3 : Cal P w K mg base 3 "_law_added" ["w", "name", "lock"] spAdd := calAt X G c FAdd (ok_add (k := 1) FAdd T cAb2) bAdd
  have cGo3 : Cal P w K mg base 3 "_law_gone" ["w", "leaf"] spGon := calAt X G c FGon (ok_gon (k := 1) FGon T cAb2) bGon
  have cNe3 : Cal P w K mg base 3 "_law_new" ["w", "leaf", "locks"] spNew := calAt X G c FNew (ok_new (k := 1) FNew T cAb2) bNew
  have cIn3 : Cal P w K mg base 3 "_law_is_name" ["thing"] spIsn := calAt X G c FIsn (ok_isn (k := 2) FIsn T) bIsn
  have cIu3 : Cal P w K mg base 3 "_law_is_number" ["thing"] spNumb := calAt X G c FIsu (ok_isu (k := 2) FIsu T) bIsu
  have cOd5 : Cal P w K mg base 5 "_law_odd" ["box"] spOd := calAt X G c FOd (ok_od (k := 1) FOd T cD4) bOd
  have cDd6 : Cal P w K mg base 6 "_law_deed" ["box", "w"] spDd := calAt X G c FDd (ok_dd (k := 0) FDd T cD5 cNm5 cLo5 cOd5) bDd
  have cDu4 : Cal P w K mg base 4 "_law_due" ["w", "deed"] spDue := calAt X G c FDue (ok_due (k := 0) FDue T cIn3 cIu3 cAd3 cGo3 cNe3) bDue
  have cTo8 : Cal P w K mg base 8 "_law_told" ["tree", "deed"] (spTo (ga K "Tree")) := calAt X G c FTol (ok_tl (k := 0) FTol M cWi7 cWo7 cRn7) bTol
  have cBg6 : Cal P w K mg base 6 "_law_begun" ["box"] spBg := calAt X G c FBg (ok_bg (k := 0) FBg T cD5 cTr5) bBg
  exact ok_law (k := 0) FLaw T tc ti R eR cBx1 cD3 cBg6 cWr1 cDd6 cSh1 cTo8 cDu4
end
end L2.My
end
set_option Elab.async false
set_option linter.all false
set_option maxRecDepth 100000
set_option maxHeartbeats 0
open PySem PySem.W PySem.Calls PyProof.Rows
theorem PySem.Challenge.cw_strangerspost_k10_whole_trees_that_grow_holds : PySem.Challenge.rw_strangerspost_k10_whole_trees_that_grow.Holds := by
  w_on; o_law
  refine HandSHeadRun.head_any (r := OpenLaw.row PySem.Challenge.rw_strangerspost_k10_whole_trees_that_grow) (q := view (OpenLaw.row PySem.Challenge.rw_strangerspost_k10_whole_trees_that_grow).prog [53]) (H := L2.My.hkK) (ob := L2.My.obK) (M := 12000) (loose := L2.My.looA ++ L2.My.looB) (d := HandSHeadRun.topDef (OpenLaw.row PySem.Challenge.rw_strangerspost_k10_whole_trees_that_grow).prog 53) (kwd := []) L2.My.obK_eq
    (by kernel_rfl) (fun s => by kernel_rfl) L2.My.run (by kernel_rfl) (by kernel_rfl) (by kernel_rfl) (by rfl) (by first | assumption | decide +kernel) (by decide +kernel) ⟨rfl, rfl, rfl, rfl, rfl, by decide +kernel⟩ ?hw ?hc
  case hw => w_witness2
  case hc =>
    refine L2.My.walkG (l := PySem.Challenge.rw_strangerspost_k10_whole_trees_that_grow) (n := 63) (k := 10) (x := "script") (sp := L2.My.spLaw) rfl (by decide) (by kernel_rfl) ⟨rfl, by decide, by decide⟩ ?F (fun K H a ns hS => ⟨a, ns, rfl, hS, fun _ => rfl⟩)
    intro w mg fa h Y G hmg0
    obtain ⟨K, KX, c⟩ := Y
    have hmg : mg ("law" : PySem.Str) = some (.ref fa) := by
      have e : (HandSHeadRun.topDef (OpenLaw.row PySem.Challenge.rw_strangerspost_k10_whole_trees_that_grow).prog 53).name = ("law" : PySem.Str) := by kernel_rfl
      rw [← e]
      exact hmg0
    obtain ⟨fd, hb, hF⟩ := L2.My.facts (P := (PySem.Challenge.rw_strangerspost_k10_whole_trees_that_grow).prog) (w := w) KX G hmg c
    exact ⟨K, fd, KX, hb, hF⟩

