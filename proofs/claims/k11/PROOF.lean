import PyProof.Rows.All
import Wide.All
import OpenK.AllK
import Wide.FinOn
import HandS.ForMost
import HandS.Exc
import HandS.Walk
import HandS.Comp
import HandS.Style
import HandS.Deep
import HandS.DictComp
import HandS.SetKeys
import HandS.TupLen
import HandS.TupAny
import HandS.IsInst
import HandS.Sort
import HandS.SortRule
import HandS.DictTup
import HandS.Conv
import HandS.WideBits
import KE.GoesEnum
import KE.GoesZip
import KE.GoesMore
import HandS.SetFor
import HandS.SortKw
import HandS.ExcValue
import KE.KExcIs
import HandS.ExcInit
import PyProof.DictMoreH
import KE.KDictKeyed
import HandS.HeadHook4
import HandS.HeadEnd
import HandS.Head2
import HandS.HeadHook3
import HandS.NestedK
import HandS.Wide
import HandS.TupLe
import HandS.RevTup
import HandS.Text
import HandS.More
import HandS.Iter
import HandS.OwnEq
import HandS.WordsExc
import HandS.Steps
import HandS.NoneIn
import HandS.Rev
import HandS.HeadWalk
import HandS.Words
import HandS.ExcIs
import HandS.Lambda
import PyProof.ReprRoads
import HandS.Dict
import HandS.WrittenGet
import HandS.TryOnly
import HandS.ExcOwn
import HandS.TryMany
import PySem.Challenge.RW_strangerspost_k11_whole_trees_as_terms
section
set_option Elab.async false
set_option linter.all false
set_option maxRecDepth 100000
set_option maxHeartbeats 4000000
/-! Own exceptions as values: made by an __init__ that is walked as a def, asked by isinstance, their fields read. -/
namespace L2.My
open PySem PySem.Spec PyProof.Rows

/-- the facts of an own exception class, beside OexC -/
structure XC (K : PySem.W.Frag) (C : Addr) : Prop where
  o : OexC K C
  hga : PySem.W.findIn K (.ref C) "__getattribute__" = some (some (.builtin "BaseException.__getattribute__"))
  hgt : PySem.W.findIn K (.ref C) "__getattr__" = some none
  ha : PySem.W.findIn K (.ref C) "__class__" = some (some (.builtin "object.__class__"))
  hn : PySem.W.specialIn K (.builtin "object.__class__") "__get__" = some (some (.builtin "getset_descriptor.__get__"))
  ht : PySem.W.takesIn K (.builtin "object.__class__") = some true
  hm : PySem.W.mroIn K C (.type "object") = some true
  hd : PySem.W.hasDictIn K C = true

/-- C(e, ..): a new exception object, then __init__; it stays tracked -/
def tMkX (C : Addr) (sp : Sp) (dvs : List V) (ta : TA) : TE := fun σ H Q => ta σ H fun vs H1 => vs.length ≤ 1000 ∧ ∀ a, H1 a = none → sp (.ref a :: (vs ++ dvs)) (upd H1 a (exo a C none))
  (fun v H2 => v = .non ∧ Q (.ref a) H2) (fun _ _ _ => False)
section
variable {X : Cx} {CX : CXT} {k : Nat} {fI C : Addr} {fd : FuncData} {ps : List Str} {sp : Sp} {dvs : List V} {ds : List Value} {x : Str} {p pos : Pos} {e : Expr} {es : List Expr} {ta : TA}
theorem run_mkx {pins : List (Addr × Obj)} {σ : St} {H : Hp} {s : Shared} {Q : VK} {us : List Value} {vs : List V} (T : OexC X.K C) (iC : PySem.W.findIn X.K (.ref C) "__init__" = some (some (.ref fI))) (tI : PySem.W.typeIn X.K (.ref fI) = some (.type "function"))
    (F1 : FnOk X.prog X.w X.K X.mg X.base CX k fI fd ps sp) (hr : Room (k + 1) X.A) (hb : Binds X.K fd ps ds) (hd : Vals dvs ds) (hx : Passes CX X (fun _ _ _ => False)) (I : Inv X pins σ H s) (r1 : Vals vs us) (hz : vs.length ≤ 1000)
    (h : ∀ a, H a = none → sp (.ref a :: (vs ++ dvs)) (upd H a (exo a C none)) (fun v H2 => v = .non ∧ Q (.ref a) H2) (fun _ _ _ => False)) :
    wpAny (model X.prog X.w) X.A (call (.ref C) us) (EP X pins σ Q) X.xe s := by
  obtain ⟨nm, q, N, bs, bm, sn, sub, ab, col, dd, k0, k1, k2, k3, k5, hC, hbm⟩ := T.cls
  obtain ⟨hp, g, dr, tk, os⟩ := s
  have hsz : hp.objs.size ≤ hp.objs.size + 1 := Nat.le_succ _
  have hn : H (hp.objs.size + 1) = none := I.hok.fresh hsz
  have hq := h (hp.objs.size + 1) hn
  have kk : ∀ b o, hp.get? b = some o → ((hp.push (PySem.W.kdv_tup us)).push (PySem.HandSPX.excO C hp.objs.size)).get? b = some o := fun b o e => Heap.get?_push_of_some _ (Heap.get?_push_of_some _ e)
  have hget : ((hp.push (PySem.W.kdv_tup us)).push (PySem.HandSPX.excO C hp.objs.size)).get? (hp.objs.size + 1) = some (PySem.HandSPX.excO C hp.objs.size) := by heap_get
  have I2 : Inv X pins σ (upd H (hp.objs.size + 1) (exo (hp.objs.size + 1) C none)) ⟨(hp.push (PySem.W.kdv_tup us)).push (PySem.HandSPX.excO C hp.objs.size), g, dr, tk, os⟩ :=
    I.laid (t' := tk) (a := hp.objs.size + 1) (o := exo (hp.objs.size + 1) C none) (h' := (hp.push (PySem.W.kdv_tup us)).push (PySem.HandSPX.excO C hp.objs.size)) kk hsz (exo_ok hget)
  have r2 : Vals (V.ref (hp.objs.size + 1) :: (vs ++ dvs)) (Value.ref (hp.objs.size + 1) :: (us ++ ds)) := .cons rfl (r1.append hd)
  have hl : (Value.ref (hp.objs.size + 1) :: us ++ ds).length = ps.length := by
    have e := r2.length
    rw [F1.len _ _ _ _ hq] at e
    exact e.symm
  have hus : us.length ≤ sizeLine := by
    rw [← Paired.length r1, sizeLine_eq]
    omega
  refine wpAny_call (PySem.HandSPX.call_own F.excBase_ValueError (fun Y => PySem.HandSPX.refsVE_contains Y bm hbm) (I.kIn _ _ hC) (PySem.W.looks_findIn I.kIn iC) (fun self => PySem.W.bind_fn I.kIn self tI) hus
    (codeAny_mono (F1.run _ X.stack _ _ ⟨Value.ref (hp.objs.size + 1) :: us, []⟩ (Value.ref (hp.objs.size + 1) :: (us ++ ds)) _ _ (fun _ _ _ => False) (hr.make C us []) (I2.env0.make C us []) (hb _ (Value.ref (hp.objs.size + 1) :: us) I2.kIn hl) r2 hq) fun r s' hq' => ?_))
  cases r with
  | error er => exact hx pins σ _ _ er s' I2 hq'
  | ok fl =>
    cases fl with
    | ret u =>
      obtain ⟨v, H', I3, rv, ev, q3⟩ := I2.after hq'
      subst ev
      exact ⟨rv, ⟨V.ref (hp.objs.size + 1), H', I3, rfl, q3⟩⟩
    | next => exact False.elim hq'
    | brk => exact False.elim hq'
    | cont => exact False.elim hq'
theorem pe_mkx (T : OexC X.K C) (iC : PySem.W.findIn X.K (.ref C) "__init__" = some (some (.ref fI))) (tI : PySem.W.typeIn X.K (.ref fI) = some (.type "function"))
    (F1 : FnOk X.prog X.w X.K X.mg X.base CX k fI fd ps sp) (hr : Room (k + 1) X.A) (hb : Binds X.K fd ps ds) (hd : Vals dvs ds) (hx : Passes CX X (fun _ _ _ => False)) (hg : Gl X x) (hm : X.mg x = some (.ref C)) (ha : PA X (e :: es) ta)
    (hdb : (x == ("__debug__" : Str)) = false := by decide) (he : starEach (e :: es) X.env = (false, eval e X.env) :: starEach es X.env := by rfl) (hpl : (backTo pos (starEach es X.env)).any (·.1) = false := by rfl) :
    PE X (.Call (.Name x p) (e :: es) [] pos) (tMkX C sp dvs ta) := by
  refine ⟨fun pins s σ H Q I h => ?_⟩
  refine wpAny_Call_Name_kw (ld_glob I hg hm ?_ hdb)
  refine PySem.W.callWith_K (h₀ := X.base) I.ok.mod.kin T.kC (thn (ha.run pos pins s σ H _ I h) fun us s1 ⟨vs, H1, I1, r1, hz, q1⟩ => ⟨I1.kIn, ?_⟩) he hpl
  exact run_mkx T iC tI F1 hr hb hd hx I1 r1 hz q1
theorem pe_mkx0 (T : OexC X.K C) (iC : PySem.W.findIn X.K (.ref C) "__init__" = some (some (.ref fI))) (tI : PySem.W.typeIn X.K (.ref fI) = some (.type "function"))
    (F1 : FnOk X.prog X.w X.K X.mg X.base CX k fI fd ps sp) (hr : Room (k + 1) X.A) (hb : Binds X.K fd ps ds) (hd : Vals dvs ds) (hx : Passes CX X (fun _ _ _ => False)) (hg : Gl X x) (hm : X.mg x = some (.ref C))
    (hdb : (x == ("__debug__" : Str)) = false := by decide) :
    PE X (.Call (.Name x p) [] [] pos) (tMkX C sp dvs tNil) := by
  refine ⟨fun pins s σ H Q I h => ?_⟩
  refine wpAny_Call_Name_kw (ld_glob I hg hm ?_ hdb)
  exact PySem.W.callWith_K0 I.kIn T.kC (run_mkx (us := []) T iC tI F1 hr hb hd hx I .nil h.1 h.2)
end

/-! ### an exception that stands: with its dict, or with none -/
/-- at a stands an exception of the class at C, its dict (if any) tracked -/
def ErrAt (H : Hp) (a C : Addr) : Prop := ∃ d : Option Addr, H a = some (exo a C d) ∧ ∀ dx, d = some dx → ∃ fs, H dx = some (exd dx fs)
theorem ErrAt.same {H H' : Hp} {a C : Addr} (h : ErrAt H a C) (s : Same H H') : ErrAt H' a C := by
  obtain ⟨d, h1, h2⟩ := h
  exact ⟨d, s _ _ h1, fun dx e => by
    obtain ⟨fs, q⟩ := h2 dx e
    exact ⟨fs, s _ _ q⟩⟩
section
variable {X : Cx} {pins : List (Addr × Obj)} {σ : St} {H : Hp} {s : Shared}
theorem XC.cl {K : PySem.W.Frag} {C : Addr} (T : XC K C) : (PySem.W.clsIn K C).isSome = true := by
  obtain ⟨cd, h, _⟩ := PySem.W.any_some T.hd
  rw [h]
  rfl
theorem ErrAt.inst {a C : Addr} (I : Inv X pins σ H s) (h : ErrAt H a C) : ∃ ox od, PySem.W.InstAt s.heap a ox C od := by
  obtain ⟨d, h1, h2⟩ := h
  obtain ⟨t1, ho⟩ := exo_at I.hok h1
  cases d with
  | none => exact ⟨_, none, ho, rfl, rfl, trivial⟩
  | some dx =>
    obtain ⟨fs, q⟩ := h2 dx rfl
    obtain ⟨mA, ⟨oD, _, _, hoD, _⟩, _⟩ := exd_at I.hok q
    exact ⟨_, some oD, ho, rfl, rfl, hoD⟩
/-- isinstance(e, c) of a standing exception -/
def rIsX (K : PySem.W.Frag) : List V → Hp → VK → Prop := fun xs H Q => ∃ (a C : Addr) (c : V) (u : Value) (b : Bool), xs = [.ref a, c] ∧ ErrAt H a C ∧ XC K C ∧ ClsV c u ∧ PySem.W.kitOne K (.ref C) u = some b ∧ Q (.bl b) H
theorem call_isX : CallR X (.builtin "isinstance") (rIsX X.K) := by
  intro pins s σ H xs us Q I r h
  obtain ⟨a, C, c, u, b, rfl, hE, T, k, e, q⟩ := h
  obtain ⟨u1, u2, rfl, r1, r2⟩ := vals2 r
  have e2 := k.eq r2
  subst e2
  cases (show u1 = Value.ref a from r1)
  obtain ⟨ox, od, J⟩ := hE.inst I
  exact PySem.W.kia_one (PySem.W.kitx_exc T.cl T.hga T.hgt T.o.exC T.ha T.hn T.ht T.hm) I.kIn J e (fun z => nomatch z) fun tk => ⟨.bl b, H, I.tok tk, rfl, q⟩
/-- e.f of a standing exception -/
def tXfv (K : PySem.W.Frag) (f : Str) (te : TE) : TE := fun σ H Q => te σ H fun x H1 => ∃ (a C dx : Addr) (fs : List (Str × V)) (v : V), x = .ref a ∧ XC K C ∧ PySem.W.findIn K (.ref C) f = some none ∧ H1 a = some (exo a C (some dx)) ∧ H1 dx = some (exd dx fs) ∧ fs.lookup f = some v ∧ Q v H1
theorem pe_xfv {e : Expr} {te : TE} {pos : Pos} {n : Str} (he : PE X e te) (hb : attributeBase e n X.env (eval e X.env) = eval e X.env := by rfl) : PE X (.Attribute e n pos) (tXfv X.K n te) := by
  refine ⟨fun pins s σ H Q I h => ?_⟩
  refine attr_of hb (thn (he.run pins s σ H _ I h) fun u s1 hh => ?_)
  obtain ⟨x, H1, I1, rx, a, C, dx, fs, v, ex, T, hno, ea, ed, l, q⟩ := hh
  subst ex
  obtain rfl : u = Value.ref a := rx
  obtain ⟨t1, ho⟩ := exo_at I1.hok ea
  obtain ⟨mA, hns, hr⟩ := exd_at I1.hok ed
  obtain ⟨od, hod, hl⟩ := lookIn_ns hns
  obtain ⟨u, hu, ru⟩ := RelO.some_of (v := v) (o := mA n) (by rw [← l]; exact hr n)
  have J : PySem.W.InstAt s1.heap a _ C (some od) := ⟨ho, rfl, rfl, hod⟩
  exact HandSPX.exc_get I1.kIn J T.hga T.hgt T.o.exC (PySem.W.findObj_own T.hd hno rfl (by rw [hl, hu])) (handed_of ru) ⟨v, H1, I1.tok _, ru, q⟩
end
end L2.My
end
section
set_option Elab.async false
set_option linter.all false
set_option maxRecDepth 100000
set_option maxHeartbeats 4000000
/-! Small rules of our own. -/
namespace L2.My
open PySem PySem.Spec PyProof.Rows
section
variable {X : Cx}
theorem pt_and {a b : Expr} {rest : List Expr} {pos : Pos} {tA tB : TT} (ha : PT X a tA) (hb : PW X (.BoolOp .And (b :: rest) pos) tB) : PT X (.BoolOp .And (a :: b :: rest) pos) (tAnd tA tB) := (pw_and ha hb).pt
theorem pt_or {a b : Expr} {rest : List Expr} {pos : Pos} {tA tB : TT} (ha : PT X a tA) (hb : PW X (.BoolOp .Or (b :: rest) pos) tB) : PT X (.BoolOp .Or (a :: b :: rest) pos) (tOr tA tB) := (pw_or ha hb).pt
theorem op_le_str : OpR X (compareOp .LtE) (fun x y H Q => ∃ i j, x = .str i ∧ y = .str j ∧ Q (.bl (!decide (j.cps.toList < i.cps.toList))) H) := by
  intro pins s σ H x y v u Q I rx ry h
  obtain ⟨i, j, rfl, rfl, q⟩ := h
  obtain ⟨t, rfl⟩ := rx
  obtain ⟨t', rfl⟩ := ry
  exact P.le_str (fin_bl I q (by simp))
/-- d in a tuple of data -/
def rInTD (K : PySem.W.Frag) : R2 := fun x y H Q => ∃ d ds, Dp K H x d ∧ Dp K H y (.tuple ds) ∧ SeqAt.shaped d = true ∧ SeqAt.shaped (.tuple ds) = true ∧ Q (.bl (ds.any fun z => PyData.eqv z d)) H
def rNotInTD (K : PySem.W.Frag) : R2 := fun x y H Q => ∃ d ds, Dp K H x d ∧ Dp K H y (.tuple ds) ∧ SeqAt.shaped d = true ∧ SeqAt.shaped (.tuple ds) = true ∧ Q (.bl (!ds.any fun z => PyData.eqv z d)) H
theorem op_inTD (hu : X.A.units + 65 < cLine) : OpR X (compareOp .In) (rInTD X.K) := by
  intro pins s σ H x y v u Q I rx ry h
  obtain ⟨d, ds, hd, he, sd, se, q⟩ := h
  obtain ⟨as, r1⟩ := Dp.reads I d x v hd rx
  obtain ⟨bs, r2⟩ := Dp.reads I (.tuple ds) y u he ry
  exact SeqAt.in_tuple_reads r2 r1 (SeqAt.canLay_of_shaped se) (SeqAt.canLay_of_shaped sd) (room_in_shaped sd hu) ⟨.bl _, H, I, rfl, q⟩
theorem op_notInTD (hu : X.A.units + 65 < cLine) : OpR X (compareOp .NotIn) (rNotInTD X.K) := by
  intro pins s σ H x y v u Q I rx ry h
  obtain ⟨d, ds, hd, he, sd, se, q⟩ := h
  obtain ⟨as, r1⟩ := Dp.reads I d x v hd rx
  obtain ⟨bs, r2⟩ := Dp.reads I (.tuple ds) y u he ry
  exact SeqAt.notIn_tuple_reads r2 r1 (SeqAt.canLay_of_shaped se) (SeqAt.canLay_of_shaped sd) (room_in_shaped sd hu) ⟨.bl _, H, I, rfl, q⟩
/-- a text, repeated -/
def strRep (z : Str) (n : Nat) : Str := ⟨(List.replicate n z.cps).foldl (· ++ ·) #[]⟩
theorem foldl_app (z : Array Nat) : ∀ (n : Nat) (a : Array Nat), ((List.replicate n z).foldl (· ++ ·) a).size = a.size + z.size * n
  | 0, a => by simp
  | n + 1, a => by
    rw [List.replicate_succ, List.foldl_cons, foldl_app z n, Array.size_append, Nat.mul_succ]
    omega
theorem strRep_len (z : Str) (n : Nat) : (strRep z n).length = z.length * n := by
  show ((List.replicate n z.cps).foldl (· ++ ·) #[]).size = _
  rw [foldl_app]
  show (#[] : Array Nat).size + z.cps.size * n = z.cps.size * n
  simp
theorem op_repS : OpR X (binaryOp .Mult) (fun x y H Q => ∃ z k, x = .str z ∧ y = .int k ∧ 2 ≤ k ∧ k ≤ 1000 ∧ 0 < z.length ∧ z.length ≤ 1000 ∧ Q (.str (strRep z k.toNat)) H) := by
  intro pins s σ H x y v u Q I rx ry h
  obtain ⟨z, k, rfl, rfl, h2, h3, h4, h5, q⟩ := h
  obtain ⟨t, rfl⟩ := rx
  obtain ⟨t', rfl⟩ := ry
  have c1 : ¬ k < 1 := by omega
  have c2 : ¬ ((k == 1 || z.length == 0) = true) := by
    simp
    omega
  refine P.mul_str ?_ (fun _ _ => ?_) (fun _ _ => ?_) ?_
  · simp
    omega
  · have h6 : (1000 : Int) ≤ (2 ^ 63 - 1) / k := by
      apply (Int.le_ediv_iff_mul_le (by omega)).mpr
      omega
    omega
  · have h7 : z.length * k.toNat ≤ 1000 * 1000 := Nat.mul_le_mul h5 (by omega)
    show decide (z.length * k.toNat > sizeLine) = false
    rw [sizeLine_eq]
    exact decide_eq_false (by omega)
  · rw [if_neg c1, if_neg c2]
    refine ⟨?_, .str _, H, I.tok _, ⟨_, rfl⟩, q⟩
    show (strRep z k.toNat).length ≤ sizeLine
    rw [strRep_len, sizeLine_eq]
    have h7 : z.length * k.toNat ≤ 1000 * 1000 := Nat.mul_le_mul h5 (by omega)
    omega
/-- how often True stands in a list of bools -/
def isTrueV (v : Value) : Bool := match v with
  | .bool b => b
  | _ => false
theorem trueV_count : ∀ {us : List Value} {bs : List Bool}, Vals (bs.map V.bl) us → us.countP isTrueV = bs.count true ∧ ∀ y ∈ us, ∃ b, y = Value.bool b
  | us, [], r => by
    cases r
    exact ⟨rfl, fun y hy => by cases hy⟩
  | us, b :: bs, r => by
    cases r with
    | cons r1 rt =>
      obtain ⟨h1, h2⟩ := trueV_count rt
      obtain rfl := (show _ = Value.bool b from r1)
      refine ⟨?_, fun y hy => ?_⟩
      · rw [List.countP_cons, List.count_cons, h1]
        cases b <;> rfl
      · rcases List.mem_cons.mp hy with e | e
        · exact ⟨b, e⟩
        · exact h2 y e
def rCntB (K : PySem.W.Frag) : V → List V → Hp → VK → Prop := fun x xs H Q => ∃ (p : Addr) (bs : List Bool), x = .ref p ∧ xs = [.bl true] ∧ SqL K H p (bs.map V.bl) ∧ Q (.int (bs.count true : Nat)) H
theorem mt_lcountB : MtR X "list.count" (rCntB X.K) := by
  intro pins s σ H x xs v us Q I rx rxs h
  obtain ⟨p, bs, rfl, rfl, hs, q⟩ := h
  cases rx
  obtain ⟨u, rfl, ru⟩ := rxs.one
  cases (show u = Value.bool true from ru)
  obtain ⟨its, rv, ⟨⟨cls, dd, data, sl⟩, n, ho, hc, hdn, hd⟩, hlen⟩ := I.list hs
  simp only at hc hd
  subst hc hd
  obtain ⟨ec, hall⟩ := trueV_count rv
  refine call_meets PySem.F.slot_list_count ⟨_, ho, rfl⟩ PySem.F.entry_list_count (PySem.F.args_list_count_2 _ _)
    (SeqAt.list_countAt p its.toArray n dd sl (.bool true) isTrueV) ⟨ho, fun y hy => ?_, ?_⟩
  · obtain ⟨b, rfl⟩ := hall y (by simpa using hy)
    have z := SeqAt.EqAt.bool_bool (A := X.A.in1) (s := s) b true
    cases b <;> exact z
  · refine ⟨.int (bs.count true : Nat), H, I.tok _, ⟨s.toks, ?_⟩, q⟩
    show Value.int ((its.toArray.toList.countP isTrueV : Nat) : Int) s.toks = Value.int ((bs.count true : Nat) : Int) s.toks
    rw [show its.toArray.toList = its from rfl, ec]
/-- l.extend(t), t a tuple -/
def rExtT (K : PySem.W.Frag) : V → List V → Hp → VK → Prop := fun x vs H Q => ∃ l b xs zs, x = .ref l ∧ vs = [.ref b] ∧ H l = some (.lst xs) ∧ SqT K H b zs ∧ xs.length + zs.length ≤ sizeLine ∧ Q .non (upd H l (.lst (xs ++ zs)))
theorem ext_tup (l : Addr) (items : Array Value) (n : Nat) (b : Addr) (o : Obj) (items2 : Array Value) (n2 : Nat) (ho : o.cls = .type "tuple") (hd : o.data = .seq items2 n2) (hs0 : ¬(!items.isEmpty && Builtin.List.listTooLong (items.size + items2.size)) = true) (hs1 : items.size ≤ sizeLine) (hs2 : items.size + items2.size ≤ sizeLine + 1) :
    Meets (Builtin.«list.extend» ⟨[.ref l, .ref b], []⟩) (fun _ R s => s.heap.get? l = some { cls := .type "list", dict := none, data := .seq items n, slots := #[] } ∧ s.heap.get? b = some o ∧ R (.ok (.ret Value.none)) { s with heap := s.heap.update l (Obj.mapSeq fun x => x ++ items2), toks := s.toks }) :=
  .of_wp fun prog w A R s h => by
    obtain ⟨hp, g, d, tk, os⟩ := s
    obtain ⟨hl, hb, h⟩ := h
    obtain ⟨oc, od, dt, sl⟩ := o
    dsimp only at ho hd
    subst ho hd
    have f2 := sub_tuple_tuple
    have f3 := sub_list_list
    have f4 := sub_tuple_list
    have f5 := sub_list_tuple
    have hz' : (items ++ items2).size ≤ sizeLine + 1 := by
      rw [Array.size_append]
      exact hs2
    wp_walk using (wpAny_updateSeq hl rfl (hz := hs1) (_hz' := hz')), wpAny_loadPart' hl, wpAny_loadPart' hb
    exact ⟨_, rfl, h⟩
theorem mt_extT : MtR X "list.extend" (rExtT X.K) := by
  intro pins s σ H x vs v us Q I rx rv h
  obtain ⟨l, b, xs, zs, rfl, rfl, hH, hB, hz, q⟩ := h
  cases rx
  obtain ⟨u, rfl, ru⟩ := rv.one
  cases ru
  obtain ⟨z, its, n, r, hl, e⟩ := I.lstM hH
  obtain ⟨its2, r2, ⟨o, e2, c2, n2, d2⟩, _⟩ := I.tuple hB
  have hl2 := r2.length
  have hsz : its.toArray.size + its2.toArray.size ≤ sizeLine := by
    rw [List.size_toArray, List.size_toArray]
    omega
  have hlong : ¬ (!its.toArray.isEmpty && Builtin.List.listTooLong (its.toArray.size + its2.toArray.size)) = true := by
    rw [notLongL hsz, Bool.and_false]
    exact Bool.false_ne_true
  refine call_meets F.slot_list_extend ⟨_, e, rfl⟩ F.entry_list_extend (F.args_list_extend_2 _ _)
    (ext_tup l its.toArray n b o its2.toArray n2 c2 d2 hlong (by rw [List.size_toArray]; omega) (by omega)) ⟨e, e2, ?_⟩
  refine ⟨.non, _, I.lset (its' := its ++ its2) hH e (by simp) (r.append r2) ?_, rfl, q⟩
  rw [List.length_append]
  omega
end
end L2.My
end
section
set_option Elab.async false
set_option linter.all false
set_option maxRecDepth 100000
set_option maxHeartbeats 4000000
/-! max of a list of ints with a default. -/
namespace PySem
section
variable {prog : Program} {w : World} {A : Around} {R : Result → Shared → Prop} {I : Addr} {fp wr : List Addr} {n : Nat} {P : Nat → Value → Prop} {St : Nat → Heap → Prop} {kw : List (Str × Value)}
theorem maxKw_turn (W : Walks prog w A.in1 I fp wr n P St) (bt : Nat → Nat → Bool) (hcmp : CmpOf prog w A.in1 .Gt P bt) (S : Addr) (hSf : S ∉ fp) :
    ∀ (k j : Nat) (s : Shared) (vb : Value) (c : Nat), n - (j + 1) = k → j + 1 ≤ n → St (j + 1) s.heap → P (argBest bt j) vb →
      s.heap.get? S = some { cls := .type "list", dict := none, data := .seq #[vb, vb] c, slots := #[] } →
      (∀ v h' tk, P (argBest bt (n - 1)) v → (∀ b o, b ∉ wr → b ≠ S → s.heap.get? b = some o → h'.get? b = some o) → R (.ok (.ret v)) { s with heap := h', toks := tk }) →
      codeAny (model prog w) A (.builtin "max.loop" ⟨[.ref I, .none, .ref S], kw⟩) R s := by
  have away : S ∉ wr := fun h => hSf (W.sub _ h)
  have name : (toString "max" ++ toString ".loop" : String) = "max.loop" := by decide
  intro k
  induction k with
  | zero =>
    intro j s vb c hk hj st pb hS hR
    have last : j + 1 = n := by omega
    refine codeAny_builtin F.entry_max_loop ?_
    rw [Around.under_plainId F.plain_max_loop _]
    refine wpAny_bind (m := seqItems? (.ref S)) (wpAny_seqItems hS rfl ?_)
    refine wpAny_bind (wpAny_tryCatch (W.done s _ _ (last ▸ st) fun h' tk keep => ?_))
    have hS2 := keep S _ away hS
    refine wpAny_bind (m := updateSeq S (fun _ => #[])) ?_
    refine wpAny_updateSeq hS2 rfl (wpAny_bind (wpAny_letGo (wpAny_pure ?_)))
    refine hR vb _ tk (by rw [← last]; exact pb) fun b o n1 n2 e => ?_
    rw [Heap.get?_update_other _ _ (Ne.symm n2)]
    exact keep b o n1 e
  | succ k ih =>
    intro j s vb c hk hj st pb hS hR
    have more : j + 1 < n := by omega
    refine codeAny_builtin F.entry_max_loop ?_
    rw [Around.under_plainId F.plain_max_loop _]
    refine wpAny_bind (m := seqItems? (.ref S)) (wpAny_seqItems hS rfl ?_)
    refine wpAny_bind (wpAny_tryCatch (W.item (j + 1) s _ _ more st fun v h' tk pv st2 keep => ?_))
    have hS2 := keep S _ away hS
    refine wpAny_bind (wpAny_pure ?_)
    refine wpAny_bind (wpAny_tryCatch (wpAny_holding (wpAny_bind (hcmp (j + 1) (argBest bt j) v vb _ _ _ pv pb ?_))))
    refine wpAny_bind (wpAny_holding (wpAny_truthy_bool ?_))
    refine wpAny_bind (wpAny_letGo (wpAny_pure ?_))
    cases hb : bt (j + 1) (argBest bt j) with
    | true =>
      simp only [if_true]
      refine wpAny_bind ?_
      refine wpAny_updateSeq hS2 rfl (wpAny_bind (wpAny_letGo ?_))
      rw [name]
      refine wpAny_pure ⟨plainId_quiet F.plain_max_loop _, ih (j + 1) _ v _ (by omega) more (W.frame _ _ _ st2 fun b hbf o e => ?_) (by simp only [argBest, hb, if_true]; exact pv) (Heap.get?_update_self _ hS2 rfl) fun v' h2 tk2 p2 k2 => ?_⟩
      · rw [Heap.get?_update_other _ _ (fun z : S = b => hSf (by rw [z]; exact hbf))]
        exact e
      · refine hR v' h2 tk2 p2 fun b o n1 n2 e => k2 b o n1 n2 ?_
        rw [Heap.get?_update_other _ _ (Ne.symm n2)]
        exact keep b o n1 e
    | false =>
      simp only [Bool.false_eq_true, if_false]
      refine wpAny_bind (wpAny_letGo ?_)
      rw [name]
      refine wpAny_pure ⟨plainId_quiet F.plain_max_loop _, ih (j + 1) _ vb c (by omega) more st2 (by simp only [argBest, hb, Bool.false_eq_true, if_false]; exact pb) hS2 fun v' h2 tk2 p2 k2 => ?_⟩
      exact hR v' h2 tk2 p2 fun b o n1 n2 e => k2 b o n1 n2 (keep b o n1 e)
end
section
variable {prog : Program} {w : World} {A : Around} {E : Value → Shared → Prop} {s : Shared}
/-- a built-in function called with keywords: its own tree -/
theorem call_kw_tree {id : String} {b : Builtin} {args : List Value} {kw : List (Str × Value)} {Q : Value → Shared → Prop} (hk : builtinKind id = none) (hp : plainId id = true) (hb : entryFor table id = some b) (ha : argsOk id ⟨args, kw⟩)
    (hc : wpAny (model prog w) A.in1 (b ⟨args, kw⟩) (fun fin s' => match fin with
      | .done f => (match (Except.ok f : Result) with | .ok (.ret v) => Q v s' | .ok _ => False | .error e => E e s')
      | .again c' => c'.quiet = true ∧ codeAny (model prog w) A c' (fun r s' => match r with | .ok (.ret v) => Q v s' | .ok _ => False | .error e => E e s') s') E s) :
    wpAny (model prog w) A (call (.builtin id) args kw) Q E s := by
  refine wpAny_call (codeAny_call_builtin hp hb ?_)
  simp only [checkBuiltinCall, hk]
  cases hsig : Manifest.signature? id with
  | none => exact wpAny_pure hc
  | some sig =>
    simp only [argsOk, hsig] at ha
    show wpAny _ A.in1 (Bind.checkArgs id sig ⟨args, kw⟩) _ _ s
    rw [show Bind.checkArgs id sig ⟨args, kw⟩ = pure () from ha]
    exact wpAny_pure hc
theorem args_maxD (a d : Value) : argsOk "max" ⟨[a], [(Str.ofString "default", d)]⟩ := by
  unfold argsOk
  kernel_rfl
theorem bind_maxD (d : Value) : Builtin.Builtins.bindParams "max" ["key", "default"] 0 ⟨[], [(Str.ofString "default", d)]⟩ = pure [none, some d] := by
  kernel_rfl
theorem max_intListD {l : Addr} {xs : Array (Int × Tok)} {d : Value} {Q : Value → Shared → Prop} (hh : A.handled = none) (hl : s.heap.IsList l (intItems xs))
    (h0 : xs.size = 0 → ∀ h' tk, (∀ b o, s.heap.get? b = some o → h'.get? b = some o) → Q d { s with heap := h', toks := tk })
    (h : 0 < xs.size → ∀ v h' tk, (intItems xs)[argBest (fun i j => decide (numAt xs i > numAt xs j)) (xs.size - 1)]? = some v → (∀ b o, s.heap.get? b = some o → h'.get? b = some o) → Q v { s with heap := h', toks := tk }) :
    wpAny (model prog w) A (call (.builtin "max") [.ref l] [(Str.ofString "default", d)]) Q E s := by
  have name : (toString "max" ++ toString ".loop" : String) = "max.loop" := by decide
  refine call_kw_tree F.kind_max F.plain_max F.entry_max (args_maxD _ _) ?_
  refine wpAny_bind (m := Builtin.Builtins.bindParams "max" ["key", "default"] 0 ⟨[], [(Str.ofString "default", d)]⟩) (wpAny_of_eq (bind_maxD d) ?_)
  refine wpAny_bind (wpAny_pure ?_)
  refine wpAny_bind (iter_intList hl fun s₂ e st hfp hlI => ?_)
  subst e
  refine wpAny_bind (wpAny_newObj_type ?_)
  rw [name]
  have W := Walks.list (prog := prog) (w := w) (A := A.in1) hh _ l hlI (intItems xs)
  have ne : (s.heap.push { cls := .type "list_iterator", data := .fields #[.ref l, .int 0 0] }).objs.size ∉ [s.heap.objs.size, l] := fun hm => Nat.lt_irrefl _ (hfp _ hm)
  have up : ∀ {b : Addr} {o o2 : Obj}, s.heap.get? b = some o → ((s.heap.push { cls := .type "list_iterator", data := .fields #[.ref l, .int 0 0] }).push o2).get? b = some o := fun e => Heap.get?_push_of_some _ (Heap.get?_push_of_some _ e)
  have old : ∀ {b : Addr} {o : Obj}, s.heap.get? b = some o → b ∉ [s.heap.objs.size] := fun e hm => by
    rcases List.mem_cons.mp hm with z | z
    · exact absurd (z ▸ Heap.lt_size e) (Nat.lt_irrefl _)
    · cases z
  have old2 : ∀ {b : Addr} {o : Obj}, s.heap.get? b = some o → b ≠ (s.heap.push { cls := .type "list_iterator", data := .fields #[.ref l, .int 0 0] }).objs.size := fun e => Nat.ne_of_lt (Heap.lt_size (Heap.get?_push_of_some _ e))
  have st0 := W.frame 0 _ ((s.heap.push { cls := .type "list_iterator", data := .fields #[.ref l, .int 0 0] }).push { cls := .type "list", data := .seq #[] }) st fun b _ o e => Heap.get?_push_of_some _ e
  have hS : ((s.heap.push { cls := .type "list_iterator", data := .fields #[.ref l, .int 0 0] }).push { cls := .type "list", data := .seq #[] }).get? (s.heap.push { cls := .type "list_iterator", data := .fields #[.ref l, .int 0 0] }).objs.size = some { cls := .type "list", data := .seq #[] } := Heap.get?_push_size _ rfl
  refine wpAny_pure ⟨plainId_quiet F.plain_max_loop _, ?_⟩
  refine codeAny_builtin F.entry_max_loop ?_
  rw [Around.under_plainId F.plain_max_loop _]
  refine wpAny_bind (m := seqItems? (.ref _)) (wpAny_seqItems hS rfl ?_)
  have szE : (intItems xs).size = xs.size := by simp [intItems]
  by_cases hz : xs.size = 0
  · refine wpAny_bind (wpAny_tryCatch (W.done _ _ _ (by rw [szE, hz]; exact st0) fun h' tk keep => ?_))
    refine wpAny_bind (wpAny_rule (wpAny_pure ?_))
    exact h0 hz h' tk fun b o e => keep b o (old e) (up e)
  · refine wpAny_bind (wpAny_tryCatch (W.item 0 _ _ _ (by rw [szE]; omega) st0 fun v h' tk pv st2 keep => ?_))
    have hS2 := keep _ _ (by simp [Heap.size_push]) hS
    refine wpAny_bind (wpAny_pure ?_)
    refine wpAny_bind ?_
    refine wpAny_updateSeq hS2 rfl ?_
    rw [name]
    refine wpAny_pure ⟨plainId_quiet F.plain_max_loop _, maxKw_turn W _ (CmpOf.ints_gt (numAt xs) (fun _ _ => intItems_at)) _ ne _ 0 _ v _ rfl (by rw [szE]; omega) (W.frame _ _ _ st2 fun b hbf o e => ?_) pv (Heap.get?_update_self _ hS2 rfl) fun v' h2 tk2 p2 k2 => ?_⟩
    · rw [Heap.get?_update_other _ _ (fun z => ne (by rw [z]; exact hbf))]
      exact e
    · rw [szE] at p2
      refine h (by omega) v' h2 tk2 p2 fun b o e => k2 b o (old e) (old2 e) ?_
      rw [Heap.get?_update_other _ _ (Ne.symm (old2 e))]
      exact keep b o (old e) (up e)
end
end PySem
namespace L2.My
open PySem PySem.Spec PyProof.Rows
section
variable {X : Cx}
/-- max(xs, default=d) of a list of ints -/
def rMaxD (K : PySem.W.Frag) : List V → List V → Hp → VK → Prop := fun xs zs H Q => ∃ (a : Addr) (ns : List Int) (d : Int), xs = [.ref a] ∧ zs = [.int d] ∧ SqL K H a (ns.map V.int) ∧ (ns = [] → Q (.int d) H) ∧ ∀ m, m ∈ ns → (∀ y, y ∈ ns → y ≤ m) → Q (.int m) H
theorem cr_maxD (hc : X.calm = true) : CallRK X (.builtin "max") [Str.ofString "default"] (rMaxD X.K) := by
  intro pins s σ H vs zs us ws Q I r rz h
  obtain ⟨a, ns, d, rfl, rfl, hs, q0, q1⟩ := h
  obtain ⟨its, rv, hl, _⟩ := I.list hs
  have hi := rv.ints
  obtain rfl := Vals.ref1 r
  obtain ⟨w1, rfl, e1⟩ := vals1 rz
  obtain ⟨td, rfl⟩ := (show ∃ t, w1 = Value.int d t from e1)
  obtain ⟨xs, e⟩ := hi.allInts.items
  have hn : numsOf (intItems xs).toList = ns := by rw [← e]; exact hi.numsOf
  rw [nums_intItems] at hn
  have hl2 := hl.isList
  rw [e] at hl2
  have ez : ns.length = xs.size := by rw [← hn, List.length_map, Array.length_toList]
  refine PySem.max_intListD (I.ok.hd hc) hl2 (fun h0 h' tk keep => ?_) fun h0 v h' tk hv keep => ?_
  · exact ⟨.int d, H, I.kept keep, ⟨td, rfl⟩, q0 (List.eq_nil_of_length_eq_zero (by rw [ez, h0]))⟩
  · obtain ⟨t, rfl⟩ := intItems_at hv
    obtain ⟨h1, h2⟩ := argBest_gt (numAt xs) (xs.size - 1)
    refine ⟨.int _, H, I.kept keep, ⟨t, rfl⟩, q1 _ ?_ fun y hy => ?_⟩
    · rw [← hn, numAt_eq]
      exact PySem.getD_mem (by rw [List.length_map, Array.length_toList]; omega)
    · rw [← hn] at hy
      obtain ⟨j, hj, rfl⟩ := mem_getD hy
      rw [List.length_map, Array.length_toList] at hj
      rw [← numAt_eq]
      exact h2 j (by omega)
end
end L2.My
end
section
set_option Elab.async false
set_option linter.all false
set_option maxRecDepth 100000
set_option maxHeartbeats 4000000
namespace L2.My
open PySem PySem.Spec PyProof.Rows
theorem same_upd {H : Hp} {p : Addr} {o : HO} (h : H p = none) : Same H (upd H p o) := fun b x e => by
  rw [upd_ne (ne_of_none e h)]
  exact e
theorem keep_ne {H : Hp} {p : Addr} {o : HO} {b : Addr} {x : HO} (h : H p = none) (e : H b = some x) : (upd H p o) b = some x := same_upd h _ _ e
theorem cutTo (xs : List V) (n : Nat) : cutV xs none (some (n : Int)) = xs.take n := by
  unfold cutV
  rw [HT.sIx_none, HT.sIx_nat]
  rw [List.drop_zero, Nat.sub_zero]
  rw [← List.take_eq_take_min]
theorem ixN_zero {n : Nat} (h : 0 < n) : ixN n 0 = some 0 := by
  unfold ixN
  rw [if_pos (by omega), if_pos (by omega)]
  rfl
theorem mod_in {x m : Int} (h : 0 < m) : 0 ≤ x % m ∧ x % m < m := ⟨Int.emod_nonneg _ (by omega), Int.emod_lt_of_pos _ h⟩
inductive ThT (H : Hp) : V → String → Prop where
  | non : ThT H .non "NoneType"
  | bl (b : Bool) : ThT H (.bl b) "bool"
  | int (i : Int) : ThT H (.int i) "int"
  | str (x : Str) : ThT H (.str x) "str"
  | lst {a : Addr} {xs : List V} (h : H a = some (.lst xs)) : ThT H (.ref a) "list"
  | tup {a : Addr} {xs : List V} (h : H a = some (.tup xs)) : ThT H (.ref a) "tuple"
  | dct {a : Addr} {kvs : List (Key × V)} (h : H a = some (.dK kvs)) : ThT H (.ref a) "dict"
def instT (t n : String) : Bool := t == n || (t == "bool" && n == "int")
theorem ThT.tyX {K : PySem.W.Frag} {H : Hp} {v : V} {t : String} (h : ThT H v t) : TyX K H v (.type t) := by
  cases h with
  | non => exact .base .non
  | bl b => exact .base (.bl b)
  | int i => exact .base (.int i)
  | str x => exact .base (.str x)
  | lst h => exact .base (.lst h)
  | tup h => exact .base (.tup h)
  | dct h => exact .base (.dK h)
theorem kitB_all : ∀ t ∈ ["NoneType", "bool", "int", "str", "list", "tuple", "dict"], ∀ n ∈ ["bool", "int", "str", "list", "tuple", "dict"], kitB t n = some (instT t n) := by decide +kernel
theorem ThT.mem {H : Hp} {v : V} {t : String} (h : ThT H v t) : t ∈ ["NoneType", "bool", "int", "str", "list", "tuple", "dict"] := by
  cases h <;> decide
theorem ThT.keep {H H' : Hp} {v : V} {t : String} (h : ThT H v t) (s : Same H H') : ThT H' v t := by
  cases h with
  | non => exact .non
  | bl b => exact .bl b
  | int i => exact .int i
  | str x => exact .str x
  | lst h => exact .lst (s _ _ h)
  | tup h => exact .tup (s _ _ h)
  | dct h => exact .dct (s _ _ h)
def rIsTh : List V → Hp → VK → Prop := fun xs H Q => ∃ v n t, xs = [v, .ty n] ∧ ThT H v t ∧ n ∈ ["bool", "int", "str", "list", "tuple", "dict"] ∧ Q (.bl (instT t n)) H
theorem call_isTh {X : Cx} : CallR X (.builtin "isinstance") rIsTh := by
  intro pins s σ H xs us Q I r h
  obtain ⟨v, n, t, rfl, ht, hn, q⟩ := h
  exact call_isi pins s σ H _ us Q I r ⟨_, _, _, _, _, rfl, .ty _, ht.tyX, kit_ty (kitB_all t ht.mem n hn), q⟩
def belowV (n : Int) : V → Bool
  | .int i => decide (0 ≤ i ∧ i < n)
  | _ => false
theorem lt1 (a b : Nat) : decide (([a] : List Nat) < [b]) = decide (a < b) := by
  by_cases h : a < b
  · rw [decide_eq_true h, decide_eq_true (by exact List.Lex.rel h)]
  · rw [decide_eq_false h]
    refine decide_eq_false fun z => ?_
    rcases (List.cons_lt_cons_iff.mp z) with z | z
    · exact h z
    · exact absurd z.2 (by simp)
theorem seq_set {te : TE} {i : Nat} {u : TS} {D : Ends} {σ : St} {H : Hp} (h : te σ H fun v H1 => u D (σ.set i (some v)) H1) : tSeq (tAsg te (gName i)) u D σ H := h
theorem seq_par3 {ta : TA} {i j l : Nat} {u : TS} {D : Ends} {σ : St} {H : Hp} (h : ta σ H fun vs H1 => ∃ x y z, vs = [x, y, z] ∧ u D (((σ.set i (some x)).set j (some y)).set l (some z)) H1) : tSeq (tPar3 i j l ta) u D σ H := h
theorem seq_par {ta : TA} {i j : Nat} {u : TS} {D : Ends} {σ : St} {H : Hp} (h : ta σ H fun vs H1 => ∃ x y, vs = [x, y] ∧ u D ((σ.set i (some x)).set j (some y)) H1) : tSeq (tPar i j ta) u D σ H := h
theorem ret_of {te : TE} {D : Ends} {σ : St} {H : Hp} (h : te σ H D.rt) : tRet te D σ H := h
theorem lst_of {ta : TA} {σ : St} {H : Hp} {Q : VK} (h : ta σ H fun xs H1 => xs.length ≤ sizeLine ∧ ∀ p, H1 p = none → Q (.ref p) (upd H1 p (.lst xs))) : tLst ta σ H Q := h
theorem tup_of {ta : TA} {σ : St} {H : Hp} {Q : VK} (h : ta σ H fun xs H1 => xs.length ≤ sizeLine ∧ ∀ p, H1 p = none → Q (.ref p) (upd H1 p (.tup xs))) : tTup ta σ H Q := h
theorem cons_of {te : TE} {ta : TA} {σ : St} {H : Hp} {Q : List V → Hp → Prop} (h : te σ H fun x H1 => ta σ H1 fun xs H2 => Q (x :: xs) H2) : tCons te ta σ H Q := h
theorem nil_of {σ : St} {H : Hp} {Q : List V → Hp → Prop} (h : Q [] H) : tNil σ H Q := h
section
variable {J : It} {n : Nat} {G : Hp → Prop} {Y : Nat → Hp → V → Hp → Prop}
def CompOut (J : It) (g : TG) (tt : TT) (te : TE) (vs : List Nat) (σ : St) (D : Addr) (Qd : Hp → Prop) (H1 : Hp) : Prop :=
    ∃ W : Nat → Nat → Hp → Prop, (∃ m, W 0 m (upd H1 D (.lst []))) ∧ ∀ i m H, W i m H →
      (J.stop i H ∧ Qd H) ∨ (J.go i H ∧ ∃ Nx : Hp → Prop, (∀ H', Nx H' → ∃ m', m' < m ∧ W (i + 1) m' H') ∧ ∀ x H', J.yld i H x H' → g x (wipe σ vs) H' fun σ2 H2 => wipe σ2 vs = wipe σ vs ∧ tt σ2 H2 fun b H3 =>
        if b = true then te σ2 H3 fun y H4 => ∃ acc, H4 D = some (.lst acc) ∧ acc.length < sizeLine ∧ Nx (upd H4 D (.lst (acc ++ [y]))) else Nx H3)
theorem range_map_snoc {α : Type} (f : Nat → α) (i : Nat) : (List.range i).map f ++ [f i] = (List.range (i + 1)).map f := by
  rw [List.range_succ, List.map_append]; rfl
theorem range_fm_snoc {α : Type} (f : Nat → Option α) (i : Nat) {v : α} (h : f i = some v) : (List.range i).filterMap f ++ [v] = (List.range (i + 1)).filterMap f := by
  rw [List.range_succ, List.filterMap_append]; simp [h]
theorem range_fm_skip {α : Type} (f : Nat → Option α) (i : Nat) (h : f i = none) : (List.range i).filterMap f = (List.range (i + 1)).filterMap f := by
  rw [List.range_succ, List.filterMap_append]; simp [h]
theorem same_grow {H H4 H1 : Hp} {D : Addr} {o : HO} (s : Same H H4) (hD : H1 D = none) (s1 : Same H1 H) : Same H1 (upd H4 D o) := fun b u e => by
  rw [upd_ne (ne_of_none e hD)]
  exact s _ _ (s1 _ _ e)
theorem lcP (w : Walk J n G Y) {g : TG} {te : TE} {vs : List Nat} {σ : St} {H1 : Hp} {D : Addr} {Qd : Hp → Prop} (fv : Nat → V) (hn : n < sizeLine) (hD : H1 D = none) (hG : ∀ H', Same H1 H' → G H')
    (hs : ∀ i x H H' (Q' : VK), i < n → Same H1 H → Y i H x H' → (∀ H4, Same H H4 → Q' (fv i) H4) → g x (wipe σ vs) H' fun σ2 H2 => wipe σ2 vs = wipe σ vs ∧ te σ2 H2 Q')
    (hd : ∀ H, Same H1 H → H D = some (.lst ((List.range n).map fv)) → Qd H) : CompOut J g tYes te vs σ D Qd H1 := by
  refine lc_it w (tt := tYes) (fun i H => Same H1 H ∧ H D = some (.lst ((List.range i).map fv))) ⟨same_upd hD, upd_same⟩ (fun i H _ h => hG H h.1) ?_ (fun H h => hd H h.1 h.2)
  rintro i x H H' hi ⟨sm, hd'⟩ y
  have q := hs i x H H' (fun v H4 => ∃ acc, H4 D = some (.lst acc) ∧ acc.length < sizeLine ∧ Same H1 (upd H4 D (.lst (acc ++ [v]))) ∧ (upd H4 D (.lst (acc ++ [v]))) D = some (.lst ((List.range (i + 1)).map fv))) hi sm y
    (fun H4 s4 => ⟨_, s4 _ _ hd', by rw [List.length_map, List.length_range]; omega, same_grow s4 hD sm, by rw [upd_same, range_map_snoc]⟩)
  exact q
theorem lcF (w : Walk J n G Y) {g : TG} {tt : TT} {te : TE} {vs : List Nat} {σ : St} {H1 : Hp} {D : Addr} {Qd : Hp → Prop} (fv : Nat → Option V) (hn : n < sizeLine) (hD : H1 D = none) (hG : ∀ H', Same H1 H' → G H')
    (hs : ∀ i x H H' (Q' : VK) (N' : Hp → Prop), i < n → Same H1 H → Y i H x H' → (∀ v, fv i = some v → ∀ H4, Same H H4 → Q' v H4) → (fv i = none → ∀ H4, Same H H4 → N' H4) →
      g x (wipe σ vs) H' fun σ2 H2 => wipe σ2 vs = wipe σ vs ∧ tt σ2 H2 fun b H3 => if b = true then te σ2 H3 Q' else N' H3)
    (hd : ∀ H, Same H1 H → H D = some (.lst ((List.range n).filterMap fv)) → Qd H) : CompOut J g tt te vs σ D Qd H1 := by
  refine lc_it w (fun i H => Same H1 H ∧ H D = some (.lst ((List.range i).filterMap fv))) ⟨same_upd hD, upd_same⟩ (fun i H _ h => hG H h.1) ?_ (fun H h => hd H h.1 h.2)
  rintro i x H H' hi ⟨sm, hd'⟩ y
  have hl : ((List.range i).filterMap fv).length < sizeLine := by
    have := List.length_filterMap_le fv (List.range i)
    rw [List.length_range] at this
    omega
  have q := hs i x H H' (fun v H4 => ∃ acc, H4 D = some (.lst acc) ∧ acc.length < sizeLine ∧ Same H1 (upd H4 D (.lst (acc ++ [v]))) ∧ (upd H4 D (.lst (acc ++ [v]))) D = some (.lst ((List.range (i + 1)).filterMap fv)))
    (fun H4 => Same H1 H4 ∧ H4 D = some (.lst ((List.range (i + 1)).filterMap fv))) hi sm y
    (fun v hv H4 s4 => ⟨_, s4 _ _ hd', hl, same_grow s4 hD sm, by rw [upd_same, range_fm_snoc fv i hv]⟩) (fun hv H4 s4 => ⟨sm.trans s4, by rw [← range_fm_skip fv i hv]; exact s4 _ _ hd'⟩)
  exact q
end
def BL (L : List Addr) (H H' : Hp) : Prop := ∀ p o, p ∉ L → H p = some o → H' p = some o
theorem BL.refl {L : List Addr} {H : Hp} : BL L H H := fun _ _ _ h => h
theorem BL.trans {L : List Addr} {H H1 H2 : Hp} (x : BL L H H1) (y : BL L H1 H2) : BL L H H2 := fun p o h e => y p o h (x p o h e)
theorem BL.same {L : List Addr} {H H' : Hp} (s : Same H H') : BL L H H' := fun p o _ e => s _ _ e
theorem BL.upd {L : List Addr} {H : Hp} {p : Addr} {o : HO} (h : p ∈ L) : BL L H (upd H p o) := fun q u hq e => by
  rw [upd_ne (fun z => hq (by rw [z]; exact h))]; exact e
theorem u65 {k : Nat} {A : Around} (h : Room k A) : A.units + 65 < cLine := by have := h.un; omega
theorem u1 {k : Nat} {A : Around} (h : Room k A) : A.units + 1 < cLine := by have := h.un; omega
def kD : Key → PyData
  | .inl i => .int i
  | .inr x => .str x
def pD (ks : List Key) : PyData := .tuple (ks.map kD)
theorem eqvAll_map {α : Type} [DecidableEq α] {f : α → PyData} (h : ∀ a b, PyData.eqv (f a) (f b) = decide (a = b)) : ∀ xs ys : List α, PyData.eqvAll (xs.map f) (ys.map f) = decide (xs = ys)
  | [], [] => by simp [PyData.eqvAll]
  | [], y :: ys => by simp [PyData.eqvAll]
  | x :: xs, [] => by simp [PyData.eqvAll]
  | x :: xs, y :: ys => by
    rw [List.map_cons, List.map_cons, PyData.eqvAll, h, eqvAll_map h xs ys]
    by_cases h1 : x = y
    · by_cases h2 : xs = ys
      · simp [h1, h2]
      · simp [h1, h2]
    · simp [h1]
theorem eqv_k (a b : Key) : PyData.eqv (kD a) (kD b) = decide (a = b) := by
  cases a with
  | inl i => cases b with
    | inl j =>
      show PyData.eqv (.int i) (.int j) = _
      rw [PyData.eqv]
      by_cases h : i = j
      · subst h; simp
      · have : ¬ (Sum.inl i : Key) = Sum.inl j := fun z => h (Sum.inl.inj z)
        rw [decide_eq_false this]; simp [h]
    | inr y =>
      show PyData.eqv (.int i) (.str y) = _
      rw [decide_eq_false (fun z => nomatch z)]; simp [PyData.eqv]
  | inr x => cases b with
    | inl j =>
      show PyData.eqv (.str x) (.int j) = _
      rw [decide_eq_false (fun z => nomatch z)]; simp [PyData.eqv]
    | inr y =>
      show PyData.eqv (.str x) (.str y) = _
      rw [PyData.eqv]
      by_cases h : x = y
      · subst h; simp
      · have : ¬ (Sum.inr x : Key) = Sum.inr y := fun z => h (Sum.inr.inj z)
        rw [decide_eq_false this]; exact beq_eq_false_iff_ne.mpr h
theorem eqv_p (a b : List Key) : PyData.eqv (pD a) (pD b) = decide (a = b) := by
  unfold pD
  rw [PyData.eqv]
  exact eqvAll_map eqv_k a b
theorem eqv_s (x y : Str) : PyData.eqv (.str x) (.str y) = decide (x = y) := by
  have := eqv_k (.inr x) (.inr y)
  rw [show PyData.eqv (.str x) (.str y) = PyData.eqv (kD (.inr x)) (kD (.inr y)) from rfl, this]
  exact key_rr x y
def rLen (K : PySem.W.Frag) : List V → Hp → VK → Prop := fun xs H Q => ∃ p ys, xs = [.ref p] ∧ (SqL K H p ys ∨ SqT K H p ys) ∧ Q (.int ys.length) H
theorem can_map {α : Type} {f : α → PyData} : ∀ {xs : List α}, (∀ x ∈ xs, PyData.canLay0 (f x) = true) → PyData.canLayAll0 (xs.map f) = true
  | [], _ => by simp [PyData.canLayAll0]
  | x :: r, h => by
    have := can_map (f := f) (xs := r) fun y hy => h y (List.mem_cons_of_mem _ hy)
    simp [PyData.canLayAll0, this, h x List.mem_cons_self]
theorem dep_map {α : Type} {f : α → PyData} {n : Nat} (h : ∀ x, PyData.depth (f x) ≤ n) : ∀ xs : List α, PyData.depthAll (xs.map f) ≤ n
  | [] => by simp [PyData.depthAll]
  | x :: r => by
    have h1 := dep_map h r
    have h2 := h x
    simp only [List.map_cons, PyData.depthAll]
    omega
theorem shaped_list {α : Type} {f : α → PyData} {n : Nat} (hn : n < 64) (hd : ∀ x, PyData.depth (f x) ≤ n) {xs : List α} (hc : ∀ x ∈ xs, PyData.canLay0 (f x) = true) : SeqAt.shaped (.list (xs.map f)) = true := by
  have h1 := can_map hc
  have h2 := dep_map hd xs
  simp only [SeqAt.shaped, PyData.canLay0, PyData.depth, Bool.and_eq_true, decide_eq_true_eq]
  exact ⟨h1, decide_eq_true (by omega)⟩
theorem shaped_ints (xs : List Int) : SeqAt.shaped (.list (xs.map .int)) = true := shaped_list (n := 1) (by decide) (fun x => by simp [PyData.depth]) fun e he => by simp [PyData.canLay0]
theorem dp_ints {K : PySem.W.Frag} {H : Hp} : ∀ xs : List Int, DpAll K H (xs.map .int) (xs.map .int)
  | [] => .nil
  | x :: r => .cons (.int x) (dp_ints r)
theorem seqT {K : PySem.W.Frag} {H H' : Hp} {a : Addr} {xs : List V} (e : Same H H') (h : SqT K H a xs) : SqT K H' a xs := by
  rcases h with (h | ⟨o, h⟩) | h
  · exact .inl (.inl (e _ _ h))
  · exact .inl (.inr ⟨o, e _ _ h⟩)
  · exact .inr h
end L2.My
end
section
set_option Elab.async false
set_option linter.all false
set_option maxRecDepth 100000
set_option maxHeartbeats 4000000
/-! enumerate of a tuple, of a dict; setdefault and comprehensions of dicts with tuple keys. -/
namespace PySem
open PySem.Spec PyProof.Rows
section
variable {prog : Program} {w : World} {A : Around} {E : Value → Shared → Prop} {s : Shared}
/-- the next key of a dict's iterator, as another iterator draws it -/
theorem my_keyNext {it d : Addr} {i n ep : Nat} {od : Obj} {es : Array DictEntry} {en : DictEntry} {Q : Value → Shared → Prop} (hit : s.heap.IsKeyIter it d i n ep) (hod : s.heap.get? d = some od) (hdd : od.data = .dict es ep)
    (hsz : es.size = n) (hx : es[i]? = some en) (hQ : ∀ h', h'.IsKeyIter it d (i + 1) n ep → Heap.SameBut it s.heap h' → Q en.key { s with heap := h' }) : wpAny (model prog w) A (Builtin.SmallTypes.nextOf (.ref it)) Q E s := by
  obtain ⟨o, ho, hc, hd⟩ := id hit
  unfold Builtin.SmallTypes.nextOf
  refine wpAny_bind (wpAny_callSpecial?_slot (name := Str.ofString "__next__") hit.typeIs F.slot_dict_keyiterator_next (wpAny_call_entry F.slot_dict_keyiterator_next hit.typeIs F.entry_dict_keyiterator_next ?_ (F.args_dict_keyiterator_next_1 _)))
  refine wpAny_bind (wpAny_pure (wpAny_bind (wpAny_bind ?_)))
  first | refine wpAny_bind (wpAny_typeNameOfWhole_keyiter hit.typeIs (wpAny_pure (wpAny_bind (wpAny_fieldsOf ho hd ?_)))) | refine wpAny_bind (wpAny_typeNameOf_keyiter hit.typeIs (wpAny_pure (wpAny_bind (wpAny_fieldsOf ho hd ?_))))
  have own : Builtin.Dict_items.ownsTuple "dict_keyiterator" = false := by decide
  simp only [own, Bool.false_eq_true, if_false]
  show wpAny _ _ (if (Value.ref d == Value.none) = true then _ else _) _ _ _
  rw [if_neg (show ¬ (Value.ref d == Value.none) = true from fun z => nomatch z)]
  refine wpAny_bind (wpAny_pure (wpAny_bind (wpAny_dictEntries hod hdd ?_)))
  rw [if_neg (by simp [hsz])]
  refine wpAny_bind (wpAny_pure (wpAny_bind (wpAny_dictEpoch hod hdd ?_)))
  rw [if_neg (by simp)]
  refine wpAny_pure ?_
  obtain ⟨lt, hen⟩ := Array.getElem?_eq_some_iff.mp hx
  simp only [show ¬ ((i : Int) < 0) by omega, if_false, Int.toNat_natCast, Array.getElem?_eq_getElem lt]
  refine wpAny_bind ?_
  first | refine wpAny_bind (wpAny_typeNameOfWhole_keyiter hit.typeIs (wpAny_pure (wpAny_bind (wpAny_isOneOf_keyiter hit.typeIs ?_)))) | refine wpAny_bind (wpAny_typeNameOf_keyiter hit.typeIs (wpAny_pure (wpAny_bind (wpAny_isOneOf_keyiter hit.typeIs ?_))))
  show wpAny _ _ (setField (.ref it) 1 (rawInt ((i : Int) + 1)) >>= _) _ _ _
  refine wpAny_bind (wpAny_setField ho hd (by simp) ?_)
  have hit2 : (s.heap.update it (Obj.mapFields (·.setIfInBounds 1 (rawInt ((i : Int) + 1))))).IsKeyIter it d (i + 1) n ep := ⟨_, Heap.get?_update_self _ ho (Obj.isFreed_of_fields (Obj.data_mapFields hd _)), (Obj.cls_mapFields ..).trans hc, by rw [Obj.data_mapFields hd]; simp [rawInt]⟩
  refine wpAny_bind (wpAny_holding (wpAny_bind (wpAny_isOneOf_keyiter (s := { s with heap := s.heap.update it (Obj.mapFields (·.setIfInBounds 1 (rawInt ((i : Int) + 1)))) }) hit2.typeIs ?_)))
  show wpAny _ _ (pure es[i].key) _ _ _
  rw [hen]
  exact wpAny_pure (wpAny_pure ⟨_, rfl, wpAny_pure (hQ _ hit2 (Heap.SameBut.update ..))⟩)
theorem my_keyEnd {it d : Addr} {i n ep : Nat} {od : Obj} {es : Array DictEntry} {Q : Value → Shared → Prop} (hh : A.handled = none) (hit : s.heap.IsKeyIter it d i n ep) (hod : s.heap.get? d = some od) (hdd : od.data = .dict es ep)
    (hsz : es.size = n) (hge : n ≤ i) (hE : ∀ h' e, Heap.ExtBut it s.heap h' → (∃ o, h'.get? e = some o ∧ o.cls = .type "StopIteration") → E (.ref e) { s with heap := h' }) : wpAny (model prog w) A (Builtin.SmallTypes.nextOf (.ref it)) Q E s := by
  obtain ⟨o, ho, hc, hd⟩ := id hit
  unfold Builtin.SmallTypes.nextOf
  refine wpAny_bind (wpAny_callSpecial?_slot (name := Str.ofString "__next__") hit.typeIs F.slot_dict_keyiterator_next (wpAny_call_entry F.slot_dict_keyiterator_next hit.typeIs F.entry_dict_keyiterator_next ?_ (F.args_dict_keyiterator_next_1 _)))
  refine wpAny_bind (wpAny_pure (wpAny_bind (wpAny_bind ?_)))
  first | refine wpAny_bind (wpAny_typeNameOfWhole_keyiter hit.typeIs (wpAny_pure (wpAny_bind (wpAny_fieldsOf ho hd ?_)))) | refine wpAny_bind (wpAny_typeNameOf_keyiter hit.typeIs (wpAny_pure (wpAny_bind (wpAny_fieldsOf ho hd ?_))))
  have own : Builtin.Dict_items.ownsTuple "dict_keyiterator" = false := by decide
  simp only [own, Bool.false_eq_true, if_false]
  show wpAny _ _ (if (Value.ref d == Value.none) = true then _ else _) _ _ _
  rw [if_neg (show ¬ (Value.ref d == Value.none) = true from fun z => nomatch z)]
  refine wpAny_bind (wpAny_pure (wpAny_bind (wpAny_dictEntries hod hdd ?_)))
  rw [if_neg (by simp [hsz])]
  refine wpAny_bind (wpAny_pure (wpAny_bind (wpAny_dictEpoch hod hdd ?_)))
  rw [if_neg (by simp)]
  refine wpAny_pure ?_
  have ge2 : es.size ≤ i := by omega
  simp only [show ¬ ((i : Int) < 0) by omega, if_false, Int.toNat_natCast, Array.getElem?_eq_none ge2]
  refine wpAny_bind ?_
  first | refine wpAny_bind (wpAny_typeNameOfWhole_keyiter hit.typeIs (wpAny_pure ?_)) | refine wpAny_bind (wpAny_typeNameOf_keyiter hit.typeIs (wpAny_pure ?_))
  show wpAny _ _ (setField (.ref it) 0 .none >>= _) _ _ _
  refine wpAny_bind (wpAny_setField ho hd (by simp) ?_)
  show wpAny _ _ (newExc (.type "StopIteration") [] >>= _) _ _ _
  simp only [newExc, newTuple]
  refine wpAny_bind (wpAny_bind (wpAny_newObj_type ?_ (by size_fits)))
  refine wpAny_bind (m := firstArgMember _ _) (wpAny_of_eq (a := Value.none) (by first | rfl | (simp only [firstArgMember]; rfl)) (wpAny_newObj_type ?_ (by size_fits)))
  simp only [raiseNew]
  refine wpAny_bind (wpAny_handled ?_)
  first | rw [show A.in1.handled = none from hh] | rw [hh]
  refine wpAny_bind (wpAny_pure (wpAny_throw ?_))
  exact hE _ _ (((Heap.SameBut.update ..).extBut.push _).push _) ⟨_, Heap.get?_push_size _ rfl, rfl⟩
end
theorem my_drawKeys {prog : Program} {w : World} {A : Around} (hh : A.handled = none) (it d : Addr) (hne : d ≠ it) (od : Obj) (es : Array DictEntry) (ep : Nat) (hdd : od.data = .dict es ep) :
    Draws prog w A it [it, d] es.size (fun i v => ∃ en, es[i]? = some en ∧ v = en.key) (fun i h => h.IsKeyIter it d i es.size ep ∧ h.get? d = some od) where
  live := fun _ _ st => let ⟨o, ho, _⟩ := st.1; ⟨o, ho⟩
  frame := fun _ _ _ st hk => ⟨st.1.at fun o e => hk it (by simp) o e, hk d (by simp) _ st.2⟩
  item := fun i s Q E hi st hQ => my_keyNext st.1 st.2 hdd rfl (en := es[i]) (by simp [hi]) fun h' hit' hs' => hQ _ h' s.toks ⟨es[i], by simp [hi], rfl⟩ ⟨hit', (hs'.2 d hne).trans st.2⟩ hs'
  done := fun s Q E st hE => my_keyEnd hh st.1 st.2 hdd rfl (Nat.le_refl _) hE
set_option maxHeartbeats 1000000 in
theorem my_enumNew {v : Value} {o : Obj} {H : Heap → Prop} (B : Begins v o H) :
    Meets (Builtin.«enumerate.__new__» ⟨[.type "enumerate", v], []⟩) (fun _ R s => H s.heap ∧ R (.ok (.ret (.ref (s.heap.push o).objs.size))) { s with heap := (s.heap.push o).push { cls := .type "enumerate", data := .fields #[.none, .bool false, .ref s.heap.objs.size, rawInt 0, .none, .none] } }) :=
  .of_wp fun prog w A R s h => by
    obtain ⟨hp, g, dr, tk, os⟩ := s
    obtain ⟨h1, h⟩ := h
    have hsub := sub_enumerate
    have q1 : ∀ {A' : Around} {E Q : Value → Shared → Prop}, Q (.ref hp.objs.size) ⟨hp.push o, g, dr, tk, os⟩ → wpAny (model prog w) A' (pyIter v) Q E ⟨hp, g, dr, tk, os⟩ := fun q => B.iter prog w _ _ ⟨hp, g, dr, tk, os⟩ _ h1 q
    wp_walk using q1
    refine wpAny_stack_any fun _ => wpAny_pure ?_
    split
    · rename_i c _ _ _ _ _
      cases (c == Value.type "enumerate") <;> (wp_walk using q1; exact ⟨_, rfl, h⟩)
    · wp_walk using q1; exact ⟨_, rfl, h⟩
theorem my_enum {prog : Program} {w : World} {A : Around} {E : Value → Shared → Prop} {s : Shared} {v : Value} {o : Obj} {H : Heap → Prop} {Q : Value → Shared → Prop} (B : Begins v o H) (h1 : H s.heap)
    (h : ∀ h', IsEnum h' (s.heap.objs.size + 1) s.heap.objs.size 0 .none → h'.get? s.heap.objs.size = some o → (∀ b o, s.heap.get? b = some o → h'.get? b = some o) → Q (.ref (s.heap.objs.size + 1)) { s with heap := h' }) :
    wpAny (model prog w) A (call (.type "enumerate") [v]) Q E s := by
  refine callType_new F.called_enumerate (by decide) (F.typeCall_enumerate_1 _) (F.newCall_enumerate_1 _) (fun obj => F.args_object_init_2 obj _) F.entry_enumerate_new (my_enumNew B) ⟨h1, ?_⟩
  have hz : (s.heap.push o).objs.size = s.heap.objs.size + 1 := Heap.size_push ..
  have he := Heap.get?_push_size (s.heap.push o) (o := { cls := .type "enumerate", data := .fields #[.none, .bool false, .ref s.heap.objs.size, rawInt 0, .none, .none] }) rfl
  show _ ∧ _
  rw [hz] at he ⊢
  exact ⟨⟨_, he, rfl⟩, h _ he (Heap.get?_push_of_some _ (Heap.get?_push_size _ B.free)) fun b o x => Heap.get?_push_of_some _ (Heap.get?_push_of_some _ x)⟩
end PySem
end
section
set_option Elab.async false
set_option linter.all false
set_option maxRecDepth 100000
set_option maxHeartbeats 4000000
namespace L2.My
open PySem PySem.Spec PyProof.Rows
/-- the tuple at a, counted, each item in a new pair -/
def IteT (K : PySem.W.Frag) (a : Addr) : It :=
  ⟨fun i H => ∃ (xs : List V) (x : V), SqT K H a xs ∧ xs[i]? = some x, fun i H v H' => ∃ T x, v = .ref T ∧ H T = none ∧ H' = upd H T (.tup [.int (i : Nat), x]) ∧ ∀ xs, SqT K H a xs → xs[i]? = some x, fun i H => ∃ xs : List V, SqT K H a xs ∧ xs.length = i⟩
/-- the keys of the locked dict at d, counted -/
def IteK (d : Addr) (od : Obj) (kvs : List (List Key × V)) : It :=
  ⟨fun i H => H d = some (.frz od (.dT kvs)) ∧ i < kvs.length, fun i H v H' => ∃ T q k x, v = .ref T ∧ H T = none ∧ H' = upd H T (.tup [.int (i : Nat), .ref q]) ∧ kvs[i]? = some (k, x) ∧ H q = some (.tup (k.map kV)), fun i H => H d = some (.frz od (.dT kvs)) ∧ kvs.length = i⟩
section
variable {P : Program} {w : World} {K : PySem.W.Frag} {elts : List Expr} {kk : Nat} {tpos : Pos}
theorem turn_enT (a e it : Addr) : Turn P w K (.Tuple elts kk tpos) (IteT K a) [e, it] e (fun i h => (∃ old, IsEnum h e it ((i : Nat) : Int) old) ∧ h.IsTupleIter it a i ∧ e ≠ it ∧ a ≠ it ∧ a ≠ e) where
  mem := by simp
  obj := fun i h st b hb => by
    obtain ⟨⟨old, he⟩, ⟨o, ho, hc, hd⟩, _⟩ := st
    rcases (show b = e ∨ b = it by simpa using hb) with rfl | rfl
    · exact ⟨_, he, fun v q => nomatch q⟩
    · exact ⟨o, ho, fun v q => by rw [hd] at q; cases q⟩
  keep := fun i h h' st k => let ⟨⟨old, he⟩, hi, r⟩ := st; ⟨⟨old, k e (by simp) _ he⟩, hi.at fun o q => k it (by simp) o q, r⟩
  item := by
    intro X hP hw hK hc i pins s σ H E I hf st hg
    subst hP hw hK
    obtain ⟨⟨old, he⟩, hit, hne, hai, hae⟩ := st
    obtain ⟨xs, x, hq, hx⟩ := hg
    obtain ⟨its, rv, p, hz⟩ := I.tuple hq
    obtain ⟨u, hu, ru⟩ := rv.get hx
    have hel : e < s.heap.objs.size := Heap.lt_size he
    have hil : it < s.heap.objs.size := by obtain ⟨_, q, _⟩ := hit; exact Heap.lt_size q
    have lt : i < its.toArray.size := by
      have := (List.getElem?_eq_some_iff.mp hu).1
      simpa using this
    refine wpAny_pyNext_enum_itemC (Draws.tuple (prog := X.prog) (w := X.w) (A := X.A.in1) (I.ok.hd hc) it a hai its.toArray) he ⟨hit, p⟩ lt hne (by simp [hne, Ne.symm hae]) fun y h' tk hP ho hs' hT hsz hk => ?_
    obtain rfl : y = u := by
      have z : its.toArray[i]? = some u := by simpa using hu
      exact Option.some.inj (hP.symm.trans z)
    refine ⟨_, rfl, wpAny_letOwnedTupleGo_enum (s := { s with heap := h', toks := tk + 1 }) ho fun h2 he2 sb => ?_⟩
    have hT2 : h2.get? s.heap.objs.size = some { cls := .type "tuple", data := .seq #[.int i tk, y] } := (sb.2 _ (Nat.ne_of_gt hel)).trans hT
    have new : ObjOk X.prog X.w (upd H s.heap.objs.size (.tup [.int (i : Nat), x])) h2 s.heap.objs.size (.tup [.int (i : Nat), x]) := ⟨by show 2 ≤ sizeLine; decide, [.int i tk, y], .cons ⟨_, rfl⟩ (.cons ru .nil), ⟨_, hT2, rfl, _, rfl⟩⟩
    have I1 : Inv X pins σ (upd H s.heap.objs.size (.tup [.int (i : Nat), x])) { s with heap := h2, toks := tk + 1 } :=
      I.turnedNew (t' := tk + 1) (ch := [e, it]) (fun b ob hb q => (sb.2 b (fun z => hb (by simp [z]))).trans (hk b ob (fun z => hb (by simp [z])) (fun z => hb (by simp [z])) q)) hf (Nat.le_refl _) new
    refine ⟨.ref s.heap.objs.size, _, I1, rfl, ⟨_, x, rfl, I.hok.fresh (Nat.le_refl _), rfl, fun ys hy => by rw [I.tuple_inj hy hq]; exact hx⟩, ⟨⟨y, ?_⟩, hs'.1.at fun o q => (sb.2 it (Ne.symm hne)).trans q, hne, hai, hae⟩, fun b hb => ?_⟩
    · have e1 : ((i + 1 : Nat) : Int) = (i : Int) + 1 := by omega
      rw [e1]; exact he2
    · have hb' : b < s.heap.objs.size := by
        rcases (show b = e ∨ b = it by simpa using hb) with rfl | rfl
        · exact hel
        · exact hil
      rw [upd_ne (Nat.ne_of_lt hb')]
      exact (hf b hb).1
  done := by
    intro X hP hw hK hc i pins s σ H E I hf st hg
    subst hP hw hK
    obtain ⟨⟨old, he⟩, hit, hne, hai, hae⟩ := st
    obtain ⟨xs, hq, hx⟩ := hg
    obtain ⟨its, rv, p, hz⟩ := I.tuple hq
    obtain ⟨f0, f1, f2, f3, f4, f5⟩ := hf it (by simp)
    have hl := rv.length
    have ei : its.toArray.size = i := by simp; omega
    subst ei
    exact wpAny_pyNext_enum_endD (Draws.tuple (prog := X.prog) (w := X.w) (A := X.A.in1) (I.ok.hd hc) it a hai its.toArray) he ⟨hit, p⟩ fun h' eb => ⟨rfl, I.turned (t' := s.toks) (fun b o hb q => eb b o hb q) f0 f1 f3 f4 f5⟩
  self := fun A i s Q E st h => let ⟨⟨_, he⟩, _⟩ := st; wpAny_pyIter_enum he h
theorem turn_enK {d : Addr} {od : Obj} {es : Array DictEntry} {ep : Nat} {kvs : List (List Key × V)} (hdd : od.data = .dict es ep) (hsz : es.size = kvs.length) (e it : Addr) : Turn P w K (.Tuple elts kk tpos) (IteK d od kvs) [e, it] e (fun i h => (∃ old, IsEnum h e it ((i : Nat) : Int) old) ∧ h.IsKeyIter it d i es.size ep ∧ e ≠ it ∧ d ≠ it ∧ d ≠ e) where
  mem := by simp
  obj := fun i h st b hb => by
    obtain ⟨⟨old, he⟩, ⟨o, ho, hc, hd⟩, _⟩ := st
    rcases (show b = e ∨ b = it by simpa using hb) with rfl | rfl
    · exact ⟨_, he, fun v q => nomatch q⟩
    · exact ⟨o, ho, fun v q => by rw [hd] at q; cases q⟩
  keep := fun i h h' st k => let ⟨⟨old, he⟩, hi, r⟩ := st; ⟨⟨old, k e (by simp) _ he⟩, hi.at fun o q => k it (by simp) o q, r⟩
  item := by
    intro X hP hw hK hc i pins s σ H E I hf st hg
    subst hP hw hK
    obtain ⟨⟨old, he⟩, hit, hne, hai, hae⟩ := st
    obtain ⟨hd, hi⟩ := hg
    obtain ⟨hs, hgd, hx, es', ep', hdt, hsz', ent⟩ := I.frzT hd
    obtain ⟨ee1, ee2⟩ := dict_ep hdt hdd
    subst ee1 ee2
    obtain ⟨⟨k, x⟩, hkv⟩ : ∃ p, kvs[i]? = some p := ⟨kvs[i], List.getElem?_eq_getElem hi⟩
    obtain ⟨en, q, hen, hkey, hq⟩ := ent i k x hkv
    have hel : e < s.heap.objs.size := Heap.lt_size he
    have hil : it < s.heap.objs.size := by obtain ⟨_, q, _⟩ := hit; exact Heap.lt_size q
    refine wpAny_pyNext_enum_itemC (my_drawKeys (prog := X.prog) (w := X.w) (A := X.A.in1) (I.ok.hd hc) it d hai od es ep hdd) he ⟨hit, hgd⟩ (by omega) hne (by simp [hne, Ne.symm hae]) fun y h' tk hP ho hs' hT hsz2 hk => ?_
    obtain ⟨en2, hen2, rfl⟩ := hP
    rw [hen] at hen2
    cases hen2
    rw [hkey] at ho hT
    refine ⟨_, rfl, wpAny_letOwnedTupleGo_enum (s := { s with heap := h', toks := tk + 1 }) ho fun h2 he2 sb => ?_⟩
    have hT2 : h2.get? s.heap.objs.size = some { cls := .type "tuple", data := .seq #[.int i tk, .ref q] } := (sb.2 _ (Nat.ne_of_gt hel)).trans hT
    have new : ObjOk X.prog X.w (upd H s.heap.objs.size (.tup [.int (i : Nat), .ref q])) h2 s.heap.objs.size (.tup [.int (i : Nat), .ref q]) := ⟨by show 2 ≤ sizeLine; decide, [.int i tk, .ref q], .cons ⟨_, rfl⟩ (.cons rfl .nil), ⟨_, hT2, rfl, _, rfl⟩⟩
    have I1 : Inv X pins σ (upd H s.heap.objs.size (.tup [.int (i : Nat), .ref q])) { s with heap := h2, toks := tk + 1 } :=
      I.turnedNew (t' := tk + 1) (ch := [e, it]) (fun b ob hb q => (sb.2 b (fun z => hb (by simp [z]))).trans (hk b ob (fun z => hb (by simp [z])) (fun z => hb (by simp [z])) q)) hf (Nat.le_refl _) new
    refine ⟨.ref s.heap.objs.size, _, I1, rfl, ⟨_, q, k, x, rfl, I.hok.fresh (Nat.le_refl _), rfl, hkv, hq⟩, ⟨⟨.ref q, ?_⟩, hs'.1.at fun o q => (sb.2 it (Ne.symm hne)).trans q, hne, hai, hae⟩, fun b hb => ?_⟩
    · have e1 : ((i + 1 : Nat) : Int) = (i : Int) + 1 := by omega
      rw [e1]; exact he2
    · have hb' : b < s.heap.objs.size := by
        rcases (show b = e ∨ b = it by simpa using hb) with rfl | rfl
        · exact hel
        · exact hil
      rw [upd_ne (Nat.ne_of_lt hb')]
      exact (hf b hb).1
  done := by
    intro X hP hw hK hc i pins s σ H E I hf st hg
    subst hP hw hK
    obtain ⟨⟨old, he⟩, hit, hne, hai, hae⟩ := st
    obtain ⟨hd, hi⟩ := hg
    obtain ⟨hs, hgd, hx, es', ep', hdt, hsz', ent⟩ := I.frzT hd
    obtain ⟨ee1, ee2⟩ := dict_ep hdt hdd
    subst ee1 ee2
    obtain ⟨f0, f1, f2, f3, f4, f5⟩ := hf it (by simp)
    have ei : es.size = i := by omega
    subst ei
    exact wpAny_pyNext_enum_endD (my_drawKeys (prog := X.prog) (w := X.w) (A := X.A.in1) (I.ok.hd hc) it d hai od es ep hdd) he ⟨hit, hgd⟩ fun h' eb => ⟨rfl, I.turned (t' := s.toks) (fun b o hb q => eb b o hb q) f0 f1 f3 f4 f5⟩
  self := fun A i s Q E st h => let ⟨⟨_, he⟩, _⟩ := st; wpAny_pyIter_enum he h
end
def iEnT (K : PySem.W.Frag) (ta : TA) : TI := fun σ H R => ta σ H fun vs H1 => ∃ a xs, vs = [.ref a] ∧ SqT K H1 a xs ∧ R (IteT K a) H1
theorem pi_enT {X : Cx} {e : Expr} {ta : TA} {p pos tpos : Pos} {elts : List Expr} {kk : Nat} (hg : Gl X "enumerate") (hm : X.mg "enumerate" = none) (ha : PA X [e] ta) (hs : starEach [e] X.env = [(false, eval e X.env)] := by rfl) :
    PI X (.Tuple elts kk tpos) (.Call (.Name "enumerate" p) [e] [] pos) (iEnT X.K ta) := by
  refine ⟨fun pins s σ H R I h => ?_⟩
  refine Call_ (ld_blt I hg hm boot_enumerate (PyProof.Rows.callWith_type1 (thn (ha.run pos pins s σ H _ I h) fun us s1 ⟨vs, H1, I1, r1, q1⟩ => ?_) hs rfl))
  obtain ⟨a, xs, ex, hq, q⟩ := q1
  subst ex
  obtain ⟨u, rfl, rx⟩ := vals1 r1
  obtain rfl : u = Value.ref a := rx
  obtain ⟨its, rv, p', hz⟩ := I1.tuple hq
  have lta : a < s1.heap.objs.size := by obtain ⟨_, e1, _⟩ := p'; exact Heap.lt_size e1
  refine my_enum (begins_tuple a its.toArray) p' fun h' he hit hk => wpAny_pyIter_enum he ?_
  have I2 : Inv X pins σ H1 { s1 with heap := h' } := I1.kept (t' := s1.toks) hk
  refine ⟨s1.heap.objs.size + 1, [s1.heap.objs.size + 1, s1.heap.objs.size], _, _, H1, rfl, I2, turn_enT a (s1.heap.objs.size + 1) s1.heap.objs.size, ⟨⟨.none, he⟩, ⟨_, hit, rfl, rfl⟩, Nat.succ_ne_self _, Nat.ne_of_lt lta, Nat.ne_of_lt (Nat.lt_succ_of_lt lta)⟩, fun b hb => ?_, q⟩
  have hle : s1.heap.objs.size ≤ b := by
    rcases (show b = s1.heap.objs.size + 1 ∨ b = s1.heap.objs.size by simpa using hb) with z | z <;> rw [z] <;> first | exact Nat.le_succ _ | exact Nat.le_refl _
  exact I1.fpOk hle (I1.hok.fresh hle)
theorem walk_enT {K : PySem.W.Frag} {a : Addr} {xs : List V} : Walk (IteT K a) xs.length (fun H => SqT K H a xs) (YPair (fun i => some (.int (i : Nat))) (fun i => xs[i]?)) :=
  ⟨fun i _ hi q => ⟨xs, xs[i], q, by simp [hi]⟩, fun _ q => ⟨xs, q, rfl⟩, fun i H v H' _ q ⟨T, x, h1, h2, h3, h4⟩ => ⟨T, .int (i : Nat), x, h1, h2, h3, rfl, h4 xs q⟩⟩
def iEnK (ta : TA) : TI := fun σ H R => ta σ H fun vs H1 => ∃ d o kvs, vs = [.ref d] ∧ H1 d = some (.frz o (.dT kvs)) ∧ R (IteK d o kvs) H1
theorem begins_keys {d : Addr} {od : Obj} {es : Array DictEntry} {ep : Nat} (hs : (d == sysModules) = false) (hx : od.ExactDict) (hdd : od.data = .dict es ep) : Begins (.ref d) { cls := .type "dict_keyiterator", data := .fields #[.ref d, .int 0 0, .int es.size 0, .int ep 0] } fun h => h.get? d = some od where
  iter := fun prog w A E s Q h1 h => iter_keys hs h1 hx hdd h
  keeps := fun h h' x hk => hk d _ x
  free := rfl
theorem pi_enK {X : Cx} {e : Expr} {ta : TA} {p pos tpos : Pos} {elts : List Expr} {kk : Nat} (hg : Gl X "enumerate") (hm : X.mg "enumerate" = none) (ha : PA X [e] ta) (hs : starEach [e] X.env = [(false, eval e X.env)] := by rfl) :
    PI X (.Tuple elts kk tpos) (.Call (.Name "enumerate" p) [e] [] pos) (iEnK ta) := by
  refine ⟨fun pins s σ H R I h => ?_⟩
  refine Call_ (ld_blt I hg hm boot_enumerate (PyProof.Rows.callWith_type1 (thn (ha.run pos pins s σ H _ I h) fun us s1 ⟨vs, H1, I1, r1, q1⟩ => ?_) hs rfl))
  obtain ⟨d, od, kvs, ex, hq, q⟩ := q1
  subst ex
  obtain ⟨u, rfl, rx⟩ := vals1 r1
  obtain rfl : u = Value.ref d := rx
  obtain ⟨hsm, hgd, hx, es, ep, hdt, hsz, ent⟩ := I1.frzT hq
  have ltd : d < s1.heap.objs.size := Heap.lt_size hgd
  refine my_enum (begins_keys hsm hx hdt) hgd fun h' he hit hk => wpAny_pyIter_enum he ?_
  have I2 : Inv X pins σ H1 { s1 with heap := h' } := I1.kept (t' := s1.toks) hk
  refine ⟨s1.heap.objs.size + 1, [s1.heap.objs.size + 1, s1.heap.objs.size], _, _, H1, rfl, I2, turn_enK hdt hsz (s1.heap.objs.size + 1) s1.heap.objs.size, ⟨⟨.none, he⟩, ⟨_, hit, rfl, rfl⟩, Nat.succ_ne_self _, Nat.ne_of_lt ltd, Nat.ne_of_lt (Nat.lt_succ_of_lt ltd)⟩, fun b hb => ?_, q⟩
  have hle : s1.heap.objs.size ≤ b := by
    rcases (show b = s1.heap.objs.size + 1 ∨ b = s1.heap.objs.size by simpa using hb) with z | z <;> rw [z] <;> first | exact Nat.le_succ _ | exact Nat.le_refl _
  exact I1.fpOk hle (I1.hok.fresh hle)
theorem walk_enK {d : Addr} {od : Obj} {kvs : List (List Key × V)} : Walk (IteK d od kvs) kvs.length (fun H => H d = some (.frz od (.dT kvs))) (fun i H v H' => ∃ T q k x, v = .ref T ∧ H T = none ∧ H' = upd H T (.tup [.int (i : Nat), .ref q]) ∧ kvs[i]? = some (k, x) ∧ H q = some (.tup (k.map kV))) :=
  ⟨fun i _ hi q => ⟨q, hi⟩, fun _ q => ⟨q, rfl⟩, fun i H v H' _ q y => y⟩
end L2.My
end
section
set_option Elab.async false
set_option linter.all false
set_option maxRecDepth 100000
set_option maxHeartbeats 4000000
namespace L2.My
open PySem PySem.Spec PyProof.Rows
section
variable {X : Cx} {pins : List (Addr × Obj)} {σ : St} {H : Hp} {s : Shared} {a b : Addr} {v : V} {r : Value} {A : Around} {E : Value → Shared → Prop} {kvs : List (List Key × V)} {k : List Key}
theorem d_dictSetT {Q : Unit → Shared → Prop} (hu : A.units + 2 < cLine) (I : Inv X pins σ H s) (e : H a = some (.dT kvs)) (eb : H b = some (.tup (k.map kV))) (hz : kvs.length < sizeLine) (rv : RelV v r)
    (h : ∀ s', Inv X pins σ (upd H a (.dT (putK kvs k v))) s' → Q () s') : wpAny (model X.prog X.w) A (dictSet a (.ref b) r) Q E s := by
  obtain ⟨z, hd, xs, rel, dd⟩ := dt_of I.hok e
  have zx : xs.length ≤ sizeLine := by rw [← Paired.length rel]; exact z
  have hl : (putK kvs k v).length ≤ sizeLine := by have := length_putK kvs k v; omega
  refine wpAny_dictSet_heap (hsz := zx) (show A.units < cLine by omega) (key_of I.hok eb) dd fun h' dd' hs => h _ ?_
  obtain ⟨q, es, ep, hq, h2, h3, h4, _, h5⟩ := dd'
  refine d_write I (by rw [e]; exact True.intro) hs ⟨q, hq⟩ ⟨hl, hd, _, (rel.put k eb rv).keeps fun c ys ec => ?_, q, es, ep, hq, h2, h3, h4, h5⟩
  rw [upd_ne (ne_of ec e (fun z => nomatch z))]
  exact ec
theorem d_setdT {d : V} {Q : Value → Shared → Prop} (hu : A.units + 2 < cLine) (I : Inv X pins σ H s) (e : H a = some (.dT kvs)) (eb : H b = some (.tup (k.map kV))) (hz : kvs.length < sizeLine) (rd : RelV d r)
    (h1 : ∀ v, valV kvs k = some v → ∀ (w' : Value) (s' : Shared), Inv X pins σ H s' → RelV v w' → Q w' s') (h2 : valV kvs k = none → ∀ (w' : Value) (s' : Shared), Inv X pins σ (upd H a (.dT (putK kvs k d))) s' → RelV d w' → Q w' s') :
    wpAny (model X.prog X.w) A (call (.builtin "dict.setdefault") [.ref a, .ref b, r]) Q E s := by
  obtain ⟨z, hd, xs, rel, dd⟩ := dt_of I.hok e
  have zx : xs.length ≤ sizeLine := by rw [← Paired.length rel]; exact z
  have q := rel.val k
  refine call_setdefault_heap (show A.units + 1 < cLine by omega) (key_of I.hok eb) hd dd (fun p hp => ?_) (fun hn h' dd' hs => ?_) zx
  · rw [hp] at q
    cases q0 : valV kvs k with
    | none => rw [q0] at q; exact (show False from q).elim
    | some v0 => rw [q0] at q; exact h1 v0 q0 _ _ (I.tok _) q
  · rw [hn] at q
    cases q0 : valV kvs k with
    | some v0 => rw [q0] at q; exact (show False from q).elim
    | none =>
      have hl : (putK kvs k d).length ≤ sizeLine := by have := length_putK kvs k d; omega
      obtain ⟨o, es, ep, hq, e2, e3, e4, _, e5⟩ := dd'
      have J : ObjOk X.prog X.w (upd H a (.dT (putK kvs k d))) h' a (.dT (putK kvs k d)) := ⟨hl, hd, _, (rel.put k eb rd).keeps fun c ys ec => (by
        rw [upd_ne (ne_of ec e (fun z => nomatch z))]
        exact ec), o, es, ep, hq, e2, e3, e4, e5⟩
      exact h2 q0 _ _ (d_write I (by rw [e]; exact True.intro) hs ⟨o, hq⟩ J) rd
end
/-- d.setdefault(y, z), tuple keys -/
def tDSetT (td ty tx : TE) : TE := fun σ H Q => td σ H fun x H1 => ∃ a, x = .ref a ∧ IsD H1 a ∧ ty σ H1 fun y H2 => tx σ H2 fun z H3 => ∃ (kvs : List (List Key × V)) (k : List Key) (b : Addr), H3 a = some (.dT kvs) ∧ y = .ref b ∧ H3 b = some (.tup (k.map kV)) ∧ kvs.length < sizeLine ∧
  (∀ v, valV kvs k = some v → Q v H3) ∧ (valV kvs k = none → Q z (upd H3 a (.dT (putK kvs k z))))
section
variable {X : Cx} {o e f : Expr} {td ty tx : TE} {apos cpos : Pos}
theorem pe_dsetT (hu : X.A.units + 2 < cLine) (ho : PE X o td) (he : PE X e ty) (hf : PE X f tx) (m : M2 X o "setdefault" apos e f cpos) : PE X (.Call (.Attribute o "setdefault" apos) [e, f] [] cpos) (tDSetT td ty tx) := by
  refine ⟨fun pins s σ H Q I h => ?_⟩
  refine wpAny_Call_method m.base m.few m.line PySem.F.plainAttrs_dict PySem.F.slot_dict_setdefault PySem.F.type_dict_setdefault (thn (ho.run pins s σ H _ I h) fun u s1 ⟨x, H1, I1, rx, a, ex, d, q1⟩ => ?_)
  subst ex
  obtain rfl : u = Value.ref a := rx
  obtain ⟨t1, t2, _⟩ := isD_at I1 d
  refine ⟨t1, t2, ?_⟩
  rw [m.trees]
  refine Calls.callWith_builtin rfl (Calls.evalArgs_plain (Calls.spliced_cons (thn (he.run pins s1 σ H1 _ I1 q1) fun iv s2 ⟨y, H2, I2, ry, q2⟩ => Calls.spliced_cons (thn (hf.run pins s2 σ H2 _ I2 q2) fun fv s3 ⟨z, H3, I3, rz, kvs, k, b, ea, ey, eb, hl, q3, q4⟩ => Calls.spliced_nil ?_))))
  subst ey
  obtain rfl : iv = Value.ref b := ry
  exact d_setdT hu I3 ea eb hl rz (fun v hv w' s4 I4 rw' => ⟨v, _, I4, rw', q3 v hv⟩) fun hn w' s4 I4 rw' => ⟨z, _, I4, rw', q4 hn⟩
end
/-! ### a comprehension -/
def tDcT (wi : TI) (g : TG) (tt : TT) (tk tv : TE) (vs : List Nat) : TE := fun σ H Q => wi σ H fun J H1 => ∀ D, H1 D = none → ∃ W : Nat → Nat → Hp → Prop, (∃ m, W 0 m (upd H1 D (.dT []))) ∧ ∀ i m H, W i m H →
  (J.stop i H ∧ Q (.ref D) H) ∨ (J.go i H ∧ ∃ Nx : Hp → Prop, (∀ H', Nx H' → ∃ m', m' < m ∧ W (i + 1) m' H') ∧ ∀ x H', J.yld i H x H' → g x (wipe σ vs) H' fun σ2 H2 => wipe σ2 vs = wipe σ vs ∧ tt σ2 H2 fun b H3 =>
    if b = true then tk σ2 H3 fun y H4 => tv σ2 H4 fun z H5 => ∃ kvs k b, y = .ref b ∧ H5 D = some (.dT kvs) ∧ H5 b = some (.tup (k.map kV)) ∧ kvs.length < sizeLine ∧ Nx (upd H5 D (.dT (putK kvs k z))) else Nx H3)
section
variable {X : Cx}
theorem dc_coreT {pins : List (Addr × Obj)} {s : Shared} {σ : St} {H : Hp} {Q : VK} {kx vx tg iter : Expr} {ifs : List Expr} {scope : Scope} {own : List (Str × Nat)} {pos pos' : Pos} {wi : TI} {g : TG} {tt : TT} {tk tv : TE} {use : Option (Value → Sem Unit)} {Qf : Value → Shared → Prop}
    (hu : X.A.units + 2 < cLine) (hc : X.calm = true) (hN : X.N.Nodup) (I : Inv X pins σ H s) (hi : PI X tg iter wi) (ok : BlkOk X.N X.env.scope scope own)
    (hg : ∀ (s : Shared) (H : Hp) (C : Addr) (cl : List (Str × Addr)) (fp : List Addr), PG (X.blk s H scope (compEnvC scope cl C X.env) fp) tg g) (ht : ∀ (s : Shared) (H : Hp) (C : Addr) (cl : List (Str × Addr)) (fp : List Addr), PTs (X.blk s H scope (compEnvC scope cl C X.env) fp) ifs tt)
    (hk : ∀ (s : Shared) (H : Hp) (C : Addr) (cl : List (Str × Addr)) (fp : List Addr), PE (X.blk s H scope (compEnvC scope cl C X.env) fp) kx tk)
    (he : ∀ (s : Shared) (H : Hp) (C : Addr) (cl : List (Str × Addr)) (fp : List Addr), PE (X.blk s H scope (compEnvC scope cl C X.env) fp) vx tv) (hs : ∀ x, foldedSetIterable iter X.env x = pure x)
    (h : tDcT wi g tt tk tv (own.map (·.2)) σ H Q)
    (hRR : ∀ D C s' m H', Inv X pins σ H' s' → Q (.ref D) H' → s'.heap.Ns C m → FpOk X pins H' C → compPost (model X.prog X.w) X.A X.xe use Qf (.ref D) C (.ok .next) s') :
    wpAny (model X.prog X.w) X.A (comprehension (.DictComp kx vx [⟨tg, iter, ifs, 0⟩] scope pos) scope X.env pos' newDict false (eval iter X.env) use) Qf X.xe s := by
  have hfree : ∀ y ∈ scope.names, y.2 = .free → ∃ c, X.env.cells.lookup y.1 = some c := fun y hy e => by
    rcases ok.free y hy e with k | k
    · exact I.ok.has _ (.inl k)
    · exact I.ok.has _ (.inr k)
  refine wpAny_comprehension_free (use := use) rfl hs (closure_ok hfree) ok.kind (fun y hy e => by rw [ok.uniq y hy, e])
    (thn (hi.run pins s σ H _ I h) fun xv s1 hx => thn hx fun itv s2 h2 => ?_)
  obtain ⟨it, fp, tn, J, H2, e, I2, T, st2, f2, q⟩ := h2
  subst e
  refine wpAny_newObj_type (newEnv_comp ?_)
  generalize hD : s2.heap.objs.size = D
  have hDn : H2 D = none := I2.hok.fresh (Nat.le_of_eq hD)
  obtain ⟨W, ⟨m0, w0⟩, turn⟩ := q D hDn
  -- the new list
  generalize hs3 : ({ s2 with heap := s2.heap.push { cls := .type "dict", data := .dict #[] } } : Shared) = s3
  have I3 : Inv X pins σ (upd H2 D (.dT [])) s3 := by
    rw [← hs3]
    refine I2.laid (t' := s2.toks) (fun b o e => Heap.get?_push_of_some _ e) (Nat.le_of_eq hD) ?_
    rw [← hD]
    exact dt_empty s2.heap I2.big
  have h3 : s3.heap = s2.heap.push { cls := .type "dict", data := .dict #[] } := by rw [← hs3]
  have sz : ∀ b ∈ fp, b < s2.heap.objs.size := fun b hb => by
    obtain ⟨o, e, _⟩ := T.obj _ _ st2 b hb
    exact Heap.lt_size e
  have f3 : ∀ b ∈ fp, FpOk X pins (upd H2 D (.dT [])) b ∧ b < s3.heap.objs.size := fun b hb => by
    have hlt := sz b hb
    refine ⟨⟨?_, (f2 b hb).2⟩, by rw [h3, Heap.size_push]; exact Nat.lt_succ_of_lt hlt⟩
    rw [upd_ne (by rw [← hD]; exact Nat.ne_of_lt hlt)]
    exact (f2 b hb).1
  have st3 : tn 0 s3.heap := T.keep _ _ _ st2 fun b _ o e => by rw [h3]; exact Heap.get?_push_of_some _ e
  have I4 := block_start I3 ok hN f3
  have pg := hg s3 (upd H2 D (.dT [])) s3.heap.objs.size (cellsFrom (s3.heap.objs.size + 1) scope.names (cloFrom X.env.cells scope.names [])) fp
  have pt := ht s3 (upd H2 D (.dT [])) s3.heap.objs.size (cellsFrom (s3.heap.objs.size + 1) scope.names (cloFrom X.env.cells scope.names [])) fp
  have pk := hk s3 (upd H2 D (.dT [])) s3.heap.objs.size (cellsFrom (s3.heap.objs.size + 1) scope.names (cloFrom X.env.cells scope.names [])) fp
  have pe := he s3 (upd H2 D (.dT [])) s3.heap.objs.size (cellsFrom (s3.heap.objs.size + 1) scope.names (cloFrom X.env.cells scope.names [])) fp
  show codeAny _ _ (.compStart (.DictComp kx vx [⟨tg, iter, ifs, 0⟩] scope pos) 0 (.ref it) (.ref D) (compEnvC scope (cellsFrom (s3.heap.objs.size + 1) scope.names (cloFrom X.env.cells scope.names [])) s3.heap.objs.size X.env)) (compPost (model X.prog X.w) X.A X.xe use Qf (.ref D) s3.heap.objs.size) { s3 with heap := pushCells (s3.heap.push { cls := .type "dict", data := .dict #[] }) scope.names }
  have nfp : ∀ b ∈ fp, (upd H2 D (.dT [])) b = none := fun b hb => (f3 b hb).1.1
  generalize hce : compEnvC scope (cellsFrom (s3.heap.objs.size + 1) scope.names (cloFrom X.env.cells scope.names [])) s3.heap.objs.size X.env = ce at I4 pg pt pk pe ⊢
  have cL : ce.locals = s3.heap.objs.size := by subst hce; rfl
  generalize hH3 : upd H2 D (.dT []) = H3 at I3 I4 pg pt pk pe w0 nfp f3
  generalize hs4 : ({ s3 with heap := pushCells (s3.heap.push { cls := .type "dict", data := .dict #[] }) scope.names } : Shared) = s4 at I4 ⊢
  have st4 : tn 0 s4.heap := T.keep _ _ _ st3 fun b _ o e => by rw [← hs4]; exact pushCells_keeps _ _ _ _ (Heap.get?_push_of_some _ e)
  have stat : ∀ {σ' : St} {H' : Hp} {s' : Shared}, Inv (X.blk s3 H3 scope ce fp) [] σ' H' s' → (∀ b ∈ fp, H' b = none) → ∀ b ∈ fp, FpOk (X.blk s3 H3 scope ce fp) [] H' b := fun {σ' H' s'} I' hn b hb =>
    ⟨hn b hb, (I'.ok.exf b hb).1, I'.ok.exfs b hb, .inl hb, fun x c e => (I'.ok.exf b hb).2 x c e, fun p hp => absurd (show p ∈ ([] : List (Addr × Obj)) ++ [] from hp) (by simp)⟩
  have loop : codeAny (model X.prog X.w) X.A (.compLoop (.DictComp kx vx [⟨tg, iter, ifs, 0⟩] scope pos) 0 (.ref it) (.ref D) ce) (compPost (model X.prog X.w) X.A X.xe use Qf (.ref D) s3.heap.objs.size) s4 := by
    refine compLoop_anyD (fun n s' => ∃ i H', Inv (X.blk s3 H3 scope ce fp) [] (wipe σ (own.map (·.2))) H' s' ∧ tn i s'.heap ∧ (∀ b ∈ fp, H' b = none) ∧ W i n H') ?_ m0 ⟨0, H3, I4, st4, nfp, w0⟩
    rintro n s5 ⟨i, H5, I5, st5, n5, w5⟩
    rcases turn i n H5 w5 with ⟨stop, qq⟩ | ⟨go, Nx, hNx, step⟩
    · have td := T.done (X.blk s3 H3 scope ce fp) rfl rfl rfl hc i [] s5 _ H5 (fun _ _ => False) I5 (stat I5 n5) st5 stop
      refine thnF td fun r s6 ⟨hr, I6⟩ => ?_
      subst hr
      -- back in the def's context
      have I7 : Inv X pins σ H5 s6 := I3.call' (ch := fp) I6.os I6.base I6.hok I6.bare fun b hb => ⟨(f3 b hb).1.2.2.2.1, (f3 b hb).1.2.1, (f3 b hb).1.2.2.2.2.1, (f3 b hb).1.2.2.2.2.2⟩
      have nC : H5 s3.heap.objs.size = none := by
        have z : H5 ce.locals = none := I6.free
        rw [cL] at z
        exact z
      obtain ⟨m, hn, _⟩ := I6.loc
      have hn : s6.heap.Ns ce.locals m := hn
      rw [cL] at hn
      exact hRR D s3.heap.objs.size s6 m H5 I7 qq hn (I3.fpOk (Nat.le_refl _) nC)
    · have ti := T.item (X.blk s3 H3 scope ce fp) rfl rfl rfl hc i [] s5 _ H5 (fun _ _ => False) I5 (stat I5 n5) st5 go
      refine thnF ti fun r s6 ⟨u, hr, h6⟩ => ?_
      subst hr
      refine thnF h6 fun _ s7 ⟨x, H7, I7, r7, y7, st7, n7⟩ => ?_
      have I7' := I7.pinned (stat I7 n7) (T.obj _ _ st7)
      refine thnF (pg.run _ s7 _ H7 x u _ I7' r7 (step x H7 y7)) fun _ s8 ⟨σ8, H8, I8, hw8, q8⟩ => ?_
      refine thnF (pt.run _ s8 σ8 H8 _ I8 q8) fun b s9 ⟨H9, I9, q9⟩ => ?_
      -- the turn's end
      have fin : ∀ {s' : Shared} {H' : Hp}, Inv (X.blk s3 H3 scope ce fp) ([] ++ pinsAt fp s7.heap) σ8 H' s' → Nx H' → ∃ m, m < n ∧ ∃ i H', Inv (X.blk s3 H3 scope ce fp) [] (wipe σ (own.map (·.2))) H' s' ∧ tn i s'.heap ∧ (∀ b ∈ fp, H' b = none) ∧ W i m H' := fun {s' H'} I' nx => by
        obtain ⟨m', hm, w'⟩ := hNx H' nx
        have pin' : ∀ b ∈ fp, ∀ o, s7.heap.get? b = some o → s'.heap.get? b = some o ∧ H' b = none := fun b hb o e =>
          let z := I'.pin (b, o) (List.mem_append_right _ (List.mem_append_right _ (mem_pinsAt hb e)))
          ⟨z.1, z.2.1⟩
        have hl : (wipe σ (own.map (·.2))).length = σ8.length := by rw [← hw8, wipe_length]
        refine ⟨m', hm, i + 1, H', (I'.unpinned (pins := [])).weak hl (fun j v e => ?_), T.keep _ _ _ st7 fun b hb o e => (pin' b hb o e).1, fun b hb => ?_, w'⟩
        · rw [← hw8] at e
          exact (wipe_some e).1
        · obtain ⟨o, e, _⟩ := T.obj _ _ st7 b hb
          exact (pin' b hb o e).2
      cases b with
      | false =>
        simp only [Bool.false_eq_true, if_false] at q9 ⊢
        exact fin I9 q9
      | true =>
        simp only [if_true] at q9 ⊢
        refine thnF (pk.run _ s9 σ8 H9 _ I9 q9) fun z s10 ⟨yk, H10, I10, r10, q10⟩ => ?_
        refine thnF (pe.run _ s10 σ8 H10 _ I10 q10) fun z2 s11 ⟨yv, H11, I11, r11, kvs, k, b, ek, hD11, hb11, hz11, nx⟩ => ?_
        subst ek
        obtain rfl : z = Value.ref b := r10
        exact d_dictSetT (X := X.blk s3 H3 scope ce fp) hu I11 hD11 hb11 hz11 r11 fun s12 I12 => fin I12 nx
  exact codeAny_compStart_dict loop (T.self X.A 0 _ _ _ st4 loop)
/-- as a value -/
theorem pe_dcT {kx vx tg iter : Expr} {ifs : List Expr} {scope : Scope} {own : List (Str × Nat)} {pos : Pos} {wi : TI} {g : TG} {tt : TT} {tk tv : TE} (hu : X.A.units + 2 < cLine) (hc : X.calm = true) (hN : X.N.Nodup) (hi : PI X tg iter wi) (ok : BlkOk X.N X.env.scope scope own)
    (hg : ∀ (s : Shared) (H : Hp) (C : Addr) (cl : List (Str × Addr)) (fp : List Addr), PG (X.blk s H scope (compEnvC scope cl C X.env) fp) tg g) (ht : ∀ (s : Shared) (H : Hp) (C : Addr) (cl : List (Str × Addr)) (fp : List Addr), PTs (X.blk s H scope (compEnvC scope cl C X.env) fp) ifs tt)
    (hk : ∀ (s : Shared) (H : Hp) (C : Addr) (cl : List (Str × Addr)) (fp : List Addr), PE (X.blk s H scope (compEnvC scope cl C X.env) fp) kx tk)
    (he : ∀ (s : Shared) (H : Hp) (C : Addr) (cl : List (Str × Addr)) (fp : List Addr), PE (X.blk s H scope (compEnvC scope cl C X.env) fp) vx tv) (hs : ∀ x, foldedSetIterable iter X.env x = pure x := by intro _; rfl) :
    PE X (.DictComp kx vx [⟨tg, iter, ifs, 0⟩] scope pos) (tDcT wi g tt tk tv (own.map (·.2))) := by
  refine ⟨fun pins s σ H Q I h => ?_⟩
  rw [arm_eval_DictComp]
  refine dc_coreT hu hc hN I hi ok hg ht hk he hs h fun D C s' m H' I' q hn f => ⟨m, hn, fun h'' sb => ?_⟩
  obtain ⟨f0, f1, f2, f3, f4, f5⟩ := f
  exact ⟨.ref D, H', I'.turned (t' := s'.toks) (fun b o hb e => (sb.2 b hb).trans e) f0 f1 f3 f4 f5, rfl, q⟩
end
end L2.My
end
section
set_option Elab.async false
set_option linter.all false
set_option maxRecDepth 100000
set_option maxHeartbeats 4000000
/-! A Hook of facts by names, of defs, and of one more Bool. -/
namespace L2.My
open PySem PySem.Spec PyProof.Rows He
abbrev AlY : Type := Al × Bool
def obsY (fa : List Fa) (fn : List FnD) (ex : PySem.W.Frag → Bool) (K : PySem.W.Frag) : AlY := (obsE fa fn K, ex K && fn.all fun d => PySem.W.keepIn K (.ref (fAd K d.at_)))
def valY (fn : List FnD) : AlY := (valE fn, true)
def obsYG (n : Nat) (fa : List Fa) (fn : List FnD) (ex : PySem.W.Frag → Bool) (g : Addr → Option Obj) : AlY := obsY fa fn ex (frG g (asD g n))
structure SaysY (fa : List Fa) (fn : List FnD) (ex : PySem.W.Frag → Bool) (K : PySem.W.Frag) : Prop where
  e : SaysE fa fn K
  more : ex K = true
  kp : ∀ d ∈ fn, PySem.W.keepIn K (.ref (fAd K d.at_)) = true
theorem saysY_of {fa : List Fa} {fn : List FnD} {ex : PySem.W.Frag → Bool} {K : PySem.W.Frag} (e : obsY fa fn ex K = valY fn) : SaysY fa fn ex K := by
  have e1 : obsE fa fn K = valE fn := congrArg (fun z : AlY => z.1) e
  have e2 : (ex K && fn.all fun d => PySem.W.keepIn K (.ref (fAd K d.at_))) = true := congrArg (fun z : AlY => z.2) e
  obtain ⟨h1, h2⟩ := ba e2
  exact ⟨e1, h1, fun d hd => List.all_eq_true.mp h2 d hd⟩
def hookY (n : Nat) (fa : List Fa) (fn : List FnD) (ex : PySem.W.Frag → Bool) : PySem.W.Hook where
  α := AlY
  obs := fun s => obsYG n fa fn ex s.heap.get?
  val := fun _ => valY fn
  says := fun _ h => ∃ K : PySem.W.Frag, K.In h ∧ SaysY fa fn ex K
  of := fun _ _ e => ⟨_, frG_in, saysY_of e⟩
  keeps := fun _ _ _ ⟨K, hK, c⟩ k => ⟨K, PySem.W.Frag.In.keeps hK k, c⟩
theorem obsYG_eq {n : Nat} {fa : List Fa} {fn : List FnD} {ex : PySem.W.Frag → Bool} {g : Addr → Option Obj} {s : Shared} (h : ∀ a, g a = s.heap.get? a) : obsYG n fa fn ex g = (hookY n fa fn ex).obs s := by
  have e : g = s.heap.get? := funext h
  rw [e] <;> rfl
section
variable {fa : List Fa} {fn : List FnD} {ex : PySem.W.Frag → Bool} {K : PySem.W.Frag}
theorem SaysY.fact (c : SaysY fa fn ex K) {f : Fa} (h : f ∈ fa) : f.ok K = true := by
  obtain ⟨i, hi, e⟩ := List.mem_iff_getElem.mp h
  exact c.e.fact i (f := f) (by rw [List.getElem?_eq_getElem hi, e])
/-- a def of the text, by its place in the list -/
theorem SaysY.fun_ (c : SaysY fa fn ex K) {d : FnD} {st : Stmt} (h : d ∈ fn) (hp : d.params = defArgs st) (hb : d.body = defBody st) (hs : d.scope = defScope st) : ∃ fd, Fun K d.name d.qual st (fAd K d.at_) fd := by
  obtain ⟨i, hi, e⟩ := List.mem_iff_getElem.mp h
  obtain ⟨oc, od, osl, kV, doc, pm, an, cdv, ct, lk, hc⟩ := c.e.def_ i (d := d) (by rw [List.getElem?_eq_getElem hi, e])
  rw [hp, hb, hs] at lk
  exact ⟨_, fun_mk lk hc (c.kp d h)⟩
end
/-! ### an own exception class, decided -/
def exB (K : PySem.W.Frag) (C : Addr) : Bool := match K.lookup C with
  | some ⟨.type "type", _, .cls cd, sl⟩ => (match cd.mro, sl.toList with
    | .ref C' :: bm, [_, _, _, _, some (.builtin n), _] => C' == C && n == "ValueError.__new__" && !cd.hasDel && PySem.HandSPX.refsVE bm && cd.hasDict
    | _, _ => false)
  | _ => false
theorem exB_ok {K : PySem.W.Frag} {C : Addr} (q : exB K C = true) : ∃ nm q N bs bm sn sub ab col dd k0 k1 k2 k3 k5, K.lookup C = some (excClassObj nm q C N bs bm true sn sub ab col dd k0 k1 k2 k3 k5 "ValueError.__new__") ∧ PySem.HandSPX.refsVE bm = true := by
  unfold exB at q
  split at q
  · rename_i dd cd sl ho
    split at q
    · rename_i C' bm k0 k1 k2 k3 n k5 hm hs
      simp only [Bool.and_eq_true, beq_iff_eq, Bool.not_eq_true'] at q
      obtain ⟨⟨⟨⟨rfl, rfl⟩, hdel⟩, hr⟩, hd⟩ := q
      obtain ⟨nm, bs, mro, ns, qn, hdct, sn, sub, ab, col, del⟩ := cd
      dsimp only at hm hdel hd
      subst hm hdel hd
      have hsl : sl = #[k0, k1, k2, k3, some (.builtin "ValueError.__new__"), k5] := by
        obtain ⟨l⟩ := sl
        simp only at hs
        rw [hs]
      subst hsl
      exact ⟨nm, qn, ns, bs, bm, sn, sub, ab, col, dd, k0, k1, k2, k3, k5, ho, hr⟩
    · cases q
  · cases q
def eqV (a b : Option Value) : Bool := decide (a = b)
theorem eqV_ok {a b : Option Value} (h : eqV a b = true) : a = b := of_decide_eq_true h
def eqB (a b : Option Bool) : Bool := decide (a = b)
theorem eqB_ok {a b : Option Bool} (h : eqB a b = true) : a = b := of_decide_eq_true h
def xcB (K : PySem.W.Frag) (C : Addr) : Bool := exB K C && (eqO (PySem.W.findIn K (.ref C) "__setattr__") (some (some (.builtin "object.__setattr__"))) && (eqB (PySem.W.subIn K (.ref C) (.type "BaseException")) (some true) && (eqV (PySem.W.typeIn K (.ref C)) (some (.type "type")) && (PySem.W.keepIn K (.ref C) &&
  (eqO (PySem.W.findIn K (.ref C) "__getattribute__") (some (some (.builtin "BaseException.__getattribute__"))) && (eqO (PySem.W.findIn K (.ref C) "__getattr__") (some none) && (eqO (PySem.W.findIn K (.ref C) "__class__") (some (some (.builtin "object.__class__"))) &&
  (eqO (PySem.W.specialIn K (.builtin "object.__class__") "__get__") (some (some (.builtin "getset_descriptor.__get__"))) && (eqB (PySem.W.takesIn K (.builtin "object.__class__")) (some true) && (eqB (PySem.W.mroIn K C (.type "object")) (some true) && PySem.W.hasDictIn K C))))))))))
theorem xcB_ok {K : PySem.W.Frag} {C : Addr} (q : xcB K C = true) : XC K C := by
  obtain ⟨h1, q⟩ := ba q
  obtain ⟨h2, q⟩ := ba q
  obtain ⟨h3, q⟩ := ba q
  obtain ⟨h4, q⟩ := ba q
  obtain ⟨h5, q⟩ := ba q
  obtain ⟨h6, q⟩ := ba q
  obtain ⟨h7, q⟩ := ba q
  obtain ⟨h8, q⟩ := ba q
  obtain ⟨h9, q⟩ := ba q
  obtain ⟨h10, q⟩ := ba q
  obtain ⟨h11, h12⟩ := ba q
  exact ⟨⟨exB_ok h1, eqO_ok h2, eqB_ok h3, eqV_ok h4, h5⟩, eqO_ok h6, eqO_ok h7, eqO_ok h8, eqO_ok h9, eqB_ok h10, eqB_ok h11, h12⟩
end L2.My
end
section
set_option Elab.async false
set_option linter.all false
set_option maxRecDepth 100000
set_option maxHeartbeats 4000000
namespace L2.Bk
open L2.My PySem PySem.Spec PyProof.Rows He
/-! The head, first: what is looked at. -/
abbrev topK (i : Nat) : Stmt := PySem.Challenge.pw_strangerspost_k11_whole_trees_as_terms.main.body.getD i (.Pass ⟨0, 0, 0, 0⟩)
abbrev mtT (i : Nat) : Stmt := inClass (topK 37) i
abbrev mbK (i : Nat) : Stmt := inClass (topK 6) i
abbrev mtK (i : Nat) : Stmt := inClass (topK 17) i
def sizKH : List (Str × Nat) := [("made", 2), ("lock", 1), ("box", 2), ("chest", 2), ("mark", 2), ("print", 1)]
def putKH : List Str := ["name", "number", "row", "made", "lock", "box", "chest", "mark", "print"]
def eD (x : Str) (st : Stmt) : DefD := { at_ := (x, none), name := x, qual := x, params := defArgs st, body := defBody st, scope := defScope st }
def eM (C m q : Str) (st : Stmt) : DefD := { at_ := (C, some m), name := m, qual := q, params := defArgs st, body := defBody st, scope := defScope st }
def fnK : List DefD := [eD "is_below" (topK 14), eD "is_sign" (topK 15), eD "is_name_text" (topK 16), eD "name_term" (topK 19), eD "number_term" (topK 20), eD "row_term" (topK 21), eD "told_part" (topK 22), eD "told_row" (topK 23), eD "is_word" (topK 26), eD "is_number" (topK 27), eD "ascends" (topK 28), eD "is_pair" (topK 31), eD "is_member" (topK 32), eD "is_leaves" (topK 33), eD "is_node" (topK 34), eD "is_kept_node" (topK 35), eD "is_nodes" (topK 36), eD "tree_term" (topK 38), eD "tree_of" (topK 39), eD "told_leaf" (topK 40), eD "told_node" (topK 41), eD "_law_mixed" (topK 43), eD "_law_box" (topK 44), eD "_law_refill" (topK 45), eD "_law_draw" (topK 46), eD "_law_name" (topK 47), eD "_law_lock" (topK 48), eD "_law_beneath" (topK 49), eD "_law_tree" (topK 50), eD "_law_int" (topK 51), eD "_law_named" (topK 52), eD "_law_members" (topK 53), eD "_law_node" (topK 54), eD "_law_aside" (topK 55), eD "_law_nodes" (topK 56), eD "_law_bad" (topK 57), eD "_law_book" (topK 58), eD "_law_locks" (topK 59), eD "_law_number" (topK 60), eD "_law_items" (topK 61), eD "_law_read_number" (topK 62), eD "_law_read_row" (topK 63), eD "_law_read_leaf" (topK 64), eD "_law_read_node" (topK 65), eD "_law_read" (topK 66), eD "_law_bent" (topK 67), eD "_law_told" (topK 68), eD "_law_same" (topK 69), eD "law" (topK 70),
  eM "PostError" "__init__" "PostError.__init__" (inClass (topK 2) 0), eM "BadTree" "__init__" "BadTree.__init__" (mbK 0), eM "Tree" "__init__" "Tree.__init__" (mtT 0), eM "Book" "__init__" "Book.__init__" (mtK 0), eM "Book" "__eq__" "Book.__eq__" (mtK 1), eM "Book" "put" "Book.put" (mtK 2), eM "Book" "fresh" "Book.fresh" (mtK 3), eM "Book" "size" "Book.size" (mtK 4), eM "Book" "number_of" "Book.number_of" (mtK 6), eM "Book" "kind" "Book.kind" (mtK 7), eM "Book" "parts" "Book.parts" (mtK 8), eM "Book" "copy" "Book.copy" (mtK 11), eM "Book" "_check" "Book._check" (mtK 12), eM "Book" "_are_terms" "Book._are_terms" (mtK 13), eM "Book" "_fits" "Book._fits" (mtK 14), eM "Book" "_put_new" "Book._put_new" (mtK 15), eM "Book" "_inner" "Book._inner" (mtK 16)]
def gloK : List Str := [("is_below" : Str), ("is_sign" : Str), ("is_name_text" : Str), ("name_term" : Str), ("number_term" : Str), ("row_term" : Str), ("told_part" : Str), ("told_row" : Str), ("is_word" : Str), ("is_number" : Str), ("ascends" : Str), ("is_pair" : Str), ("is_member" : Str), ("is_leaves" : Str), ("is_node" : Str), ("is_kept_node" : Str), ("is_nodes" : Str), ("tree_term" : Str), ("tree_of" : Str), ("told_leaf" : Str), ("told_node" : Str), ("_law_mixed" : Str), ("_law_box" : Str), ("_law_refill" : Str), ("_law_draw" : Str), ("_law_name" : Str), ("_law_lock" : Str), ("_law_beneath" : Str), ("_law_tree" : Str), ("_law_int" : Str), ("_law_named" : Str), ("_law_members" : Str), ("_law_node" : Str), ("_law_aside" : Str), ("_law_nodes" : Str), ("_law_bad" : Str), ("_law_book" : Str), ("_law_locks" : Str), ("_law_number" : Str), ("_law_items" : Str), ("_law_read_number" : Str), ("_law_read_row" : Str), ("_law_read_leaf" : Str), ("_law_read_node" : Str), ("_law_read" : Str), ("_law_bent" : Str), ("_law_told" : Str), ("_law_same" : Str), ("law" : Str), ("PostError" : Str), ("NoKind" : Str), ("NoParts" : Str), ("NoTerm" : Str), ("BadTree" : Str), ("Book" : Str), ("Tree" : Str), ("COUNTS" : Str), ("LEAVES" : Str), ("PUT_KINDS" : Str)]
def freeK : List Str := ["isinstance", "int", "bool", "str", "len", "all", "tuple", "list", "max", "sorted", "range", "reversed", "repr", "ValueError"]
def noaB : List Str := ["_kinds", "_parts", "_depths", "_numbers", "_fresh_count"]
def noaT : List Str := ["height", "leaves", "nodes"]
def metK : List Str := ["put", "fresh", "size", "number_of", "kind", "parts", "copy", "_check", "_are_terms", "_fits", "_put_new", "_inner"]
def restK : List Fa := [.int "MOST_SIGNS" 40, .int "MOST_ITEMS" 400, .int "NUMBER_BOUND" 1000000000000, .int "MOST_LETTERS" 12, .int "MOST_HEIGHT" 8, .cls "Book", .mkr "Book", .cls "Tree", .mkr "Tree"]
def faK : List Fa := gloK.map .glo ++ (freeK.map .free ++ (restK ++ (noaB.map (.noat "Book") ++ (noaT.map (.noat "Tree") ++ metK.map (.meth "Book")))))
def exK1 (K : PySem.W.Frag) : Bool := xcB K (ga K "NoKind") && (eqO (PySem.W.findIn K (.ref (ga K "NoKind")) "__init__") (some (some (.ref (ma K (ga K "PostError") "__init__")))) && (xcB K (ga K "NoParts") && (eqO (PySem.W.findIn K (.ref (ga K "NoParts")) "__init__") (some (some (.ref (ma K (ga K "PostError") "__init__")))) && (xcB K (ga K "NoTerm") && (eqO (PySem.W.findIn K (.ref (ga K "NoTerm")) "__init__") (some (some (.ref (ma K (ga K "PostError") "__init__")))) && (L2.My.eqV (PySem.W.typeIn K (.ref (ma K (ga K "PostError") "__init__"))) (some (.type "function")) && (eqB (PySem.W.exmOne K (.ref (ga K "NoTerm")) (.ref (ga K "NoTerm"))) (some true) && (xcB K (ga K "BadTree") && (eqO (PySem.W.findIn K (.ref (ga K "BadTree")) "part") (some none) && (eqO (PySem.W.findIn K (.ref (ga K "BadTree")) "__init__") (some (some (.ref (ma K (ga K "BadTree") "__init__")))) && (L2.My.eqV (PySem.W.typeIn K (.ref (ma K (ga K "BadTree") "__init__"))) (some (.type "function")) && (eqB (PySem.W.kitOne K (.ref (ga K "BadTree")) (.ref (ga K "PostError"))) (some true) && (eqB (PySem.W.kitOne K (.ref (ga K "BadTree")) (.type "ValueError")) (some true) && (eqB (PySem.W.exmOne K (.ref (ga K "BadTree")) (.ref (ga K "BadTree"))) (some true) && (eqO (PySem.W.findIn K (.ref (ga K "Book")) "__class__") (some (some (.builtin "object.__class__"))) && (eqO (PySem.W.specialIn K (.builtin "object.__class__") "__get__") (some (some (.builtin "getset_descriptor.__get__"))) && (eqB (PySem.W.takesIn K (.builtin "object.__class__")) (some true) && (eqB (PySem.W.mroIn K (ga K "Book") (.type "object")) (some true) && (eqB (PySem.W.kitOne K (.ref (ga K "Book")) (.ref (ga K "Book"))) (some true) && (eqO (PySem.W.findIn K (.ref (ga K "Book")) "__eq__") (some (some (.ref (ma K (ga K "Book") "__eq__")))) && (PySem.W.isFn K (.ref (ma K (ga K "Book") "__eq__")) && (PySem.W.notFirst K (ga K "Book") (.ref (ga K "Book")) && (tupB K "LEAVES" [.str "name", .str "number", .str "fresh"] && (tupB K "PUT_KINDS" (putKH.map .str) && (valsB K (ga K "COUNTS") (sizKH.map fun p => (p.1, .int (p.2 : Nat))))))))))))))))))))))))))))
def tsK : List Tab := [((fun K => ga K "COUNTS"), ["made", "lock", "box", "chest", "mark", "print"])]
def tfK : List Defn := []
abbrev RK : PySem.W.OpenRow := PySem.W.OpenLaw.row PySem.Challenge.rw_strangerspost_k11_whole_trees_as_terms
abbrev hkK : PySem.W.Hook := hookX 4 faK fnK tsK tfK exK1
def obK (s : PySem.W.SharedT) : AlX := obsX 4 faK fnK tsK tfK exK1 (HandSHeadRun.getT s)
theorem obK_eq (s : PySem.W.SharedT) : obK s = hkK.obs s.abs := obsX_eq (HandSHeadRun.getT_eq s)
end L2.Bk
end
section
set_option Elab.async false
set_option linter.all false
set_option maxRecDepth 100000
set_option maxHeartbeats 0
namespace L2.Bk
open L2.My PySem PySem.Spec PyProof.Rows He
abbrev looA : List PySem.Str := [("_wall" : PySem.Str), ("PostError" : PySem.Str), ("NoKind" : PySem.Str), ("NoParts" : PySem.Str), ("NoTerm" : PySem.Str), ("BadTree" : PySem.Str), ("MOST_SIGNS" : PySem.Str), ("MOST_ITEMS" : PySem.Str), ("NUMBER_BOUND" : PySem.Str), ("COUNTS" : PySem.Str), ("LEAVES" : PySem.Str), ("PUT_KINDS" : PySem.Str), ("is_below" : PySem.Str), ("is_sign" : PySem.Str), ("is_name_text" : PySem.Str), ("Book" : PySem.Str), ("name_term" : PySem.Str), ("number_term" : PySem.Str), ("row_term" : PySem.Str), ("told_part" : PySem.Str), ("told_row" : PySem.Str), ("MOST_LETTERS" : PySem.Str), ("is_word" : PySem.Str), ("is_number" : PySem.Str), ("ascends" : PySem.Str), ("MOST_HEIGHT" : PySem.Str), ("is_pair" : PySem.Str), ("is_member" : PySem.Str), ("is_leaves" : PySem.Str), ("is_node" : PySem.Str), ("is_kept_node" : PySem.Str), ("is_nodes" : PySem.Str), ("Tree" : PySem.Str), ("tree_term" : PySem.Str), ("tree_of" : PySem.Str), ("told_leaf" : PySem.Str), ("told_node" : PySem.Str)]
abbrev looB : List PySem.Str := [("_law_mixed" : PySem.Str), ("_law_box" : PySem.Str), ("_law_refill" : PySem.Str), ("_law_draw" : PySem.Str), ("_law_name" : PySem.Str), ("_law_lock" : PySem.Str), ("_law_beneath" : PySem.Str), ("_law_tree" : PySem.Str), ("_law_int" : PySem.Str), ("_law_named" : PySem.Str), ("_law_members" : PySem.Str), ("_law_node" : PySem.Str), ("_law_aside" : PySem.Str), ("_law_nodes" : PySem.Str), ("_law_bad" : PySem.Str), ("_law_book" : PySem.Str), ("_law_locks" : PySem.Str), ("_law_number" : PySem.Str), ("_law_items" : PySem.Str), ("_law_read_number" : PySem.Str), ("_law_read_row" : PySem.Str), ("_law_read_leaf" : PySem.Str), ("_law_read_node" : PySem.Str), ("_law_read" : PySem.Str), ("_law_bent" : PySem.Str), ("_law_told" : PySem.Str), ("_law_same" : PySem.Str)]
theorem lawAt : RK.prog.main.body.length = 71 := by kernel_rfl
theorem lawN : (HandSHeadRun.topDef RK.prog 70).name = ("law" : PySem.Str) := by kernel_rfl
theorem joinO {α β γ δ : Type} {o : Option α} {f : α → β} {g : α → γ} {h : α → δ} {b : β} {c : γ} {d : δ} (A : (o.map fun s => (f s, g s)) = some (b, c)) (B : (o.map fun s => h s) = some d) : (o.map fun s => (f s, g s, h s)) = some (b, c, d) := by
  cases o with
  | none => cases A
  | some s =>
    have a := Option.some.inj A
    have e := Option.some.inj B
    injection a with a1 a2
    exact congrArg some (by rw [← a1, ← a2, ← e])
end L2.Bk
namespace HandSHeadRun
open PySem PySem.W PySem.Calls PyProof.Rows
theorem va_f (w : World) (os : OsState) : ((endF (stepQ (denQ tabQ) L2.Bk.RK.prog (w.withFollow "special-get-raises" false)) 12000 L2.Bk.RK.prog (w.withFollow "special-get-raises" false) os).map fun s => (looksF L2.Bk.RK.prog (boot_heap (w.withFollow "special-get-raises" false).params) s.abs, seenQ (PySem.W.view L2.Bk.RK.prog [70]) (L2.Bk.looA ++ L2.Bk.looB) (importedModules L2.Bk.RK.prog.main.body) (fun s => xlAt (PySem.W.view L2.Bk.RK.prog [70]) [] s && recOk L2.Bk.RK.toRowW.records s) s.abs)) = some (true, openGood (PySem.W.view L2.Bk.RK.prog [70]) (L2.Bk.looA ++ L2.Bk.looB)) := by kernel_rfl
theorem vb_f (w : World) (os : OsState) : ((endF (stepQ (denQ tabQ) L2.Bk.RK.prog (w.withFollow "special-get-raises" false)) 12000 L2.Bk.RK.prog (w.withFollow "special-get-raises" false) os).map fun s => L2.Bk.obK s) = some (L2.Bk.hkK.val (w.withFollow "special-get-raises" false)) := by kernel_rfl
theorem va_t (w : World) (os : OsState) : ((endF (stepQ (denQ tabQ) L2.Bk.RK.prog (w.withFollow "special-get-raises" true)) 12000 L2.Bk.RK.prog (w.withFollow "special-get-raises" true) os).map fun s => (looksF L2.Bk.RK.prog (boot_heap (w.withFollow "special-get-raises" true).params) s.abs, seenQ (PySem.W.view L2.Bk.RK.prog [70]) (L2.Bk.looA ++ L2.Bk.looB) (importedModules L2.Bk.RK.prog.main.body) (fun s => xlAt (PySem.W.view L2.Bk.RK.prog [70]) [] s && recOk L2.Bk.RK.toRowW.records s) s.abs)) = some (true, openGood (PySem.W.view L2.Bk.RK.prog [70]) (L2.Bk.looA ++ L2.Bk.looB)) := by kernel_rfl
theorem vb_t (w : World) (os : OsState) : ((endF (stepQ (denQ tabQ) L2.Bk.RK.prog (w.withFollow "special-get-raises" true)) 12000 L2.Bk.RK.prog (w.withFollow "special-get-raises" true) os).map fun s => L2.Bk.obK s) = some (L2.Bk.hkK.val (w.withFollow "special-get-raises" true)) := by kernel_rfl
end HandSHeadRun
namespace L2.Bk
open L2.My PySem PySem.Spec PyProof.Rows He
theorem run_f (w : World) : HandSHeadRun.RunEq RK (PySem.W.view RK.prog [70]) hkK obK 12000 (looA ++ looB) (w.withFollow "special-get-raises" false) := fun os => joinO (HandSHeadRun.va_f w os) (HandSHeadRun.vb_f w os)
theorem run_t (w : World) : HandSHeadRun.RunEq RK (PySem.W.view RK.prog [70]) hkK obK 12000 (looA ++ looB) (w.withFollow "special-get-raises" true) := fun os => joinO (HandSHeadRun.va_t w os) (HandSHeadRun.vb_t w os)
theorem run (w : World) : HandSHeadRun.RunEq RK (PySem.W.view RK.prog [70]) hkK obK 12000 (looA ++ looB) w := PySem.W.byRow2 "special-get-raises" run_f run_t w
end L2.Bk
end
section
set_option Elab.async false
set_option linter.all false
set_option maxRecDepth 100000
set_option maxHeartbeats 4000000
namespace L2.My
open PySem PySem.Spec PyProof.Rows
def top (i : Nat) : Stmt := PySem.Challenge.pw_strangerspost_k11_whole_trees_as_terms.main.body.getD i (.Pass ⟨0, 0, 0, 0⟩)
abbrev mT (i : Nat) : Stmt := inClass (top 37) i
abbrev mB (i : Nat) : Stmt := inClass (top 6) i
/-- a word of letters -/
def wordS (z : Str) : Prop := 1 ≤ z.length ∧ z.length ≤ 12 ∧ z.cps.toList.all (fun c => decide (97 ≤ c) && decide (c ≤ 122)) = true
/-- all tuples stand -/
def TK (H H' : Hp) : Prop := ∀ p xs, H p = some (.tup xs) → H' p = some (.tup xs)
theorem TK.refl {H : Hp} : TK H H := fun _ _ h => h
theorem TK.trans {H H1 H2 : Hp} (a : TK H H1) (b : TK H1 H2) : TK H H2 := fun p xs h => b p xs (a p xs h)
theorem TK.same {H H' : Hp} (s : Same H H') : TK H H' := fun _ _ h => s _ _ h
theorem TK.upd {H : Hp} {a : Addr} {o : HO} {u : HO} (h : H a = some u) (hu : ∀ xs, u ≠ .tup xs) : TK H (upd H a o) := fun p xs e => by
  rw [upd_ne (fun z => by rw [z, h] at e; exact hu xs (Option.some.inj e))]
  exact e
theorem TK.bl {L : List Addr} {H H' : Hp} (s : BL L H H') (hL : ∀ p ∈ L, ∀ xs, H p ≠ some (.tup xs)) : TK H H' := fun p xs e => s p _ (fun z => hL p z xs e) e
/-! ### the text's names -/
structure Tx (mg : Str → Option Value) : Prop where
  isi : mg "isinstance" = none
  int_ : mg "int" = none
  bool_ : mg "bool" = none
  str_ : mg "str" = none
  len_ : mg "len" = none
  all_ : mg "all" = none
  tuple_ : mg "tuple" = none
  list_ : mg "list" = none
  range_ : mg "range" = none
  rev_ : mg "reversed" = none
  repr_ : mg "repr" = none
  ml : ∃ t, mg "MOST_LETTERS" = some (.int 12 t)
  mh : ∃ t, mg "MOST_HEIGHT" = some (.int 8 t)
/-- a def of the module that may be called -/
structure Cal (P : Program) (w : World) (K : PySem.W.Frag) (mg : Str → Option Value) (base : Heap) (k : Nat) (x : Str) (ps : List Str) (sp : Sp) where
  f : Addr
  fd : FuncData
  G : FnOk P w K mg base CX0 k f fd ps sp
  kp : PySem.W.keepIn K (.ref f) = true
  g : mg x = some (.ref f)
  b : Binds K fd ps []
/-- a method of a class that may be called -/
structure Met (P : Program) (w : World) (K : PySem.W.Frag) (mg : Str → Option Value) (base : Heap) (k : Nat) (C : Addr) (x : Str) (ps : List Str) (sp : Sp) where
  f : Addr
  fd : FuncData
  c : Cls K C
  m : Meth K C x f
  G : FnOk P w K mg base CX0 k f fd ps sp
  b : Binds K fd ps []
/-- a class of which objects may be made -/
structure Mak (P : Program) (w : World) (K : PySem.W.Frag) (mg : Str → Option Value) (base : Heap) (k : Nat) (C : Addr) (x : Str) (ps : List Str) (sp : Sp) where
  f : Addr
  fd : FuncData
  M : Mk K C f
  G : FnOk P w K mg base CX0 k f fd ps sp
  g : mg x = some (.ref C)
  b : Binds K fd ps []
section
variable {X : Cx} {k j : Nat} {x : Str} {ps : List Str} {sp : Sp} {C : Addr} {p pos apos : Pos} {e o : Expr} {es : List Expr} {t : TA} {to : TE}
theorem pe_c (c : Cal X.prog X.w X.K X.mg X.base k x ps sp) (hr : Room j X.A) (hk : k ≤ j) (hg : Gl X x) (ha : PA X (e :: es) t) (hdb : (x == ("__debug__" : Str)) = false := by decide)
    (he : starEach (e :: es) X.env = (false, eval e X.env) :: starEach es X.env := by rfl) (hpl : (backTo pos (starEach es X.env)).any (·.1) = false := by rfl) : PE X (.Call (.Name x p) (e :: es) [] pos) (tCall sp [] E0 t) :=
  pe_call c.G (hr.mono hk) hg c.g c.kp c.b .nil pass0 ha hdb he hpl
end
theorem sIx1 (n d : Nat) : HT.sIx n d (some 1) = min 1 n := HT.sIx_nat n d 1
theorem Paired.at {α β : Type} {R : α → β → Prop} {as : List α} {bs : List β} (h : Paired R as bs) {i : Nat} {b : β} (hb : bs[i]? = some b) : ∃ a, as[i]? = some a ∧ R a b := by
  induction h generalizing i with
  | nil => simp at hb
  | @cons x y xs ys r t ih =>
    cases i with
    | zero => simp only [List.getElem?_cons_zero, Option.some.injEq] at hb; subst hb; exact ⟨x, rfl, r⟩
    | succ i => rw [List.getElem?_cons_succ] at hb; obtain ⟨a, ha, hr⟩ := ih hb; exact ⟨a, by rw [List.getElem?_cons_succ]; exact ha, hr⟩
theorem Paired.at' {α β : Type} {R : α → β → Prop} {as : List α} {bs : List β} (h : Paired R as bs) {i : Nat} {a : α} (ha : as[i]? = some a) : ∃ b, bs[i]? = some b ∧ R a b := by
  induction h generalizing i with
  | nil => simp at ha
  | @cons x y xs ys r t ih =>
    cases i with
    | zero => simp only [List.getElem?_cons_zero, Option.some.injEq] at ha; subst ha; exact ⟨y, rfl, r⟩
    | succ i => rw [List.getElem?_cons_succ] at ha; obtain ⟨b, hb, hr⟩ := ih ha; exact ⟨b, by rw [List.getElem?_cons_succ]; exact hb, hr⟩
theorem Paired.len {α β : Type} {R : α → β → Prop} {as : List α} {bs : List β} (h : Paired R as bs) : as.length = bs.length := by
  induction h with
  | nil => rfl
  | cons _ _ ih => rw [List.length_cons, List.length_cons, ih]
theorem ref_at {as : List Addr} {i : Nat} {v : V} (h : (as.map V.ref)[i]? = some v) : ∃ a, as[i]? = some a ∧ v = .ref a := by
  rw [List.getElem?_map] at h
  cases e : as[i]? with
  | none => rw [e] at h; cases h
  | some a => rw [e] at h; exact ⟨a, rfl, (Option.some.inj h).symm⟩
theorem all_tt (n : Nat) : ((List.range n).map fun _ => true).all id = true := by simp
theorem BL.put {L : List Addr} {H G : Hp} {p : Addr} {o : HO} (b : BL L H G) (h : H p = none) : BL L H (L2.upd G p o) := fun q u hq e => by
  rw [upd_ne (fun z => by rw [z, h] at e; cases e)]
  exact b q u hq e
theorem BL.nw {L : List Addr} {H G : Hp} {p : Addr} (b : BL L H G) (h : G p = none) (hp : p ∉ L) : H p = none := by
  cases e : H p with
  | none => rfl
  | some o => rw [b _ _ hp e] at h; cases h
theorem Paired.snoc {α β : Type} {R : α → β → Prop} {as : List α} {bs : List β} {a : α} {b : β} (h : Paired R as bs) (r : R a b) : Paired R (as ++ [a]) (bs ++ [b]) := by
  induction h with
  | nil => exact .cons r .nil
  | cons r' _ ih => exact .cons r' ih
theorem take_snoc {α : Type} {l : List α} {i : Nat} {a : α} (h : l[i]? = some a) : l.take (i + 1) = l.take i ++ [a] := by
  rw [List.take_add_one, h]; rfl
theorem same_put {H G : Hp} {p : Addr} {o : HO} (b : Same H G) (h : H p = none) : Same H (upd G p o) := fun q u e => by
  rw [upd_ne (fun z => by rw [z, h] at e; cases e)]
  exact b q u e
theorem paired_app {α β : Type} {R : α → β → Prop} {as cs : List α} {bs ds : List β} (h : Paired R as bs) (k : Paired R cs ds) : Paired R (as ++ cs) (bs ++ ds) := by
  induction h with
  | nil => exact k
  | cons r _ ih => exact .cons r ih
theorem seq_use {t u : TS} {D : Ends} {σ : St} {H : Hp} (Pm : St → Hp → Prop) (h2 : ∀ σ' H', Pm σ' H' → u D σ' H') (h1 : (∀ σ' H', Pm σ' H' → u D σ' H') → t { D with nx := u D } σ H) : tSeq t u D σ H := h1 h2
end L2.My
end
section
set_option Elab.async false
set_option linter.all false
set_option maxRecDepth 100000
set_option maxHeartbeats 4000000
/-! The law's box: a dict of what was drawn. -/
namespace L2.My
open PySem PySem.Spec PyProof.Rows
abbrev sMixd : Stmt := top 43
abbrev sBox : Stmt := top 44
abbrev sRefill : Stmt := top 45
abbrev sDraw : Stmt := top 46
theorem seqL {K : PySem.W.Frag} {H H' : Hp} {a : Addr} {xs : List V} (e : Same H H') (h : SqL K H a xs) : SqL K H' a xs :=
  h.elim (fun h => .inl (h.elim (fun h => .inl (e _ _ h)) fun ⟨o, h⟩ => .inr ⟨o, e _ _ h⟩)) fun h => .inr h
theorem u1' {k : Nat} {A : Around} (h : Room k A) : A.units + 1 < cLine := by have := h.un; omega
def boxL (g : Addr) (at' rest many : Int) (great : Bool) (all : Int) : List (Key × V) := [(.inr "cells", .ref g), (.inr "at", .int at'), (.inr "rest", .int rest), (.inr "many", .int many), (.inr "great", .bl great), (.inr "all", .int all)]
def BoxAt (H : Hp) (b g : Addr) : Prop := ∃ (ns : List Int) (at' rest many all : Int) (great : Bool), H b = some (.dK (boxL g at' rest many great all)) ∧ H g = some (.lst (ns.map V.int)) ∧ 0 ≤ at' ∧ 0 ≤ rest
theorem BoxAt.ne {H : Hp} {b g : Addr} (h : BoxAt H b g) : g ≠ b := fun e => by
  obtain ⟨_, _, _, _, _, _, h1, h2, _⟩ := h
  rw [e, h1] at h2
  cases h2
theorem BoxAt.tk {H H' : Hp} {b g : Addr} (h : BoxAt H b g) (s : BL [b] H H') : TK H H' := by
  obtain ⟨_, _, _, _, _, _, h1, _⟩ := h
  exact .bl s (fun p hp xs e => by rw [List.mem_singleton.mp hp, h1] at e; cases e)
theorem BoxAt.same {H H' : Hp} {b g : Addr} (h : BoxAt H b g) (s : Same H H') : BoxAt H' b g := by
  obtain ⟨ns, a1, r, m, al, gr, h1, h2, h3⟩ := h
  exact ⟨ns, a1, r, m, al, gr, s _ _ h1, s _ _ h2, h3⟩
theorem BoxAt.put {H : Hp} {b g D : Addr} {o : HO} (h : BoxAt H b g) (hb : D ≠ b) (hg : D ≠ g) : BoxAt (L2.upd H D o) b g := by
  obtain ⟨ns, a1, r, m, al, gr, h1, h2, h3⟩ := h
  exact ⟨ns, a1, r, m, al, gr, by rw [upd_ne (Ne.symm hb)]; exact h1, by rw [upd_ne (Ne.symm hg)]; exact h2, h3⟩
theorem BoxAt.nb {H : Hp} {b g D : Addr} (h : BoxAt H b g) (n : H D = none) : D ≠ b := fun e => by
  obtain ⟨_, _, _, _, _, _, h1, _⟩ := h
  rw [e, h1] at n; cases n
theorem BoxAt.ng {H : Hp} {b g D : Addr} (h : BoxAt H b g) (n : H D = none) : D ≠ g := fun e => by
  obtain ⟨_, _, _, _, _, _, _, h2, _⟩ := h
  rw [e, h2] at n; cases n
section
variable {H : Hp} {b g : Addr} {at' rest many all x : Int} {great y : Bool}
theorem bx_cells (hb : H b = some (.dK (boxL g at' rest many great all))) : DGet H b (.str "cells") (some (.ref g)) := .inl ⟨_, .inr "cells", .inl hb, rfl, rfl⟩
theorem bx_at (hb : H b = some (.dK (boxL g at' rest many great all))) : DGet H b (.str "at") (some (.int at')) := .inl ⟨_, .inr "at", .inl hb, rfl, rfl⟩
theorem bx_rest (hb : H b = some (.dK (boxL g at' rest many great all))) : DGet H b (.str "rest") (some (.int rest)) := .inl ⟨_, .inr "rest", .inl hb, rfl, rfl⟩
theorem bx_many (hb : H b = some (.dK (boxL g at' rest many great all))) : DGet H b (.str "many") (some (.int many)) := .inl ⟨_, .inr "many", .inl hb, rfl, rfl⟩
theorem bx_great (hb : H b = some (.dK (boxL g at' rest many great all))) : DGet H b (.str "great") (some (.bl great)) := .inl ⟨_, .inr "great", .inl hb, rfl, rfl⟩
theorem bx_all (hb : H b = some (.dK (boxL g at' rest many great all))) : DGet H b (.str "all") (some (.int all)) := .inl ⟨_, .inr "all", .inl hb, rfl, rfl⟩
theorem bp_at (hb : H b = some (.dK (boxL g at' rest many great all))) : DPut H b (.str "at") (.int x) (upd H b (.dK (boxL g x rest many great all))) := .inl ⟨_, .inr "at", hb, rfl, by show 6 < sizeLine; decide, rfl⟩
theorem bp_rest (hb : H b = some (.dK (boxL g at' rest many great all))) : DPut H b (.str "rest") (.int x) (upd H b (.dK (boxL g at' x many great all))) := .inl ⟨_, .inr "rest", hb, rfl, by show 6 < sizeLine; decide, rfl⟩
theorem bp_many (hb : H b = some (.dK (boxL g at' rest many great all))) : DPut H b (.str "many") (.int x) (upd H b (.dK (boxL g at' rest x great all))) := .inl ⟨_, .inr "many", hb, rfl, by show 6 < sizeLine; decide, rfl⟩
theorem bp_great (hb : H b = some (.dK (boxL g at' rest many great all))) : DPut H b (.str "great") (.bl y) (upd H b (.dK (boxL g at' rest many y all))) := .inl ⟨_, .inr "great", hb, rfl, by show 6 < sizeLine; decide, rfl⟩
theorem bp_all (hb : H b = some (.dK (boxL g at' rest many great all))) : DPut H b (.str "all") (.int x) (upd H b (.dK (boxL g at' rest many great x))) := .inl ⟨_, .inr "all", hb, rfl, by show 6 < sizeLine; decide, rfl⟩
end
def spMixd : Sp := fun vs H Q _ => ∃ i j : Int, vs = [.int i, .int j] ∧ ∀ r : Int, 0 ≤ r → r < 2147483399 → Q (.int r) H
def spBox (K : PySem.W.Frag) : Sp := fun vs H Q _ => ∃ (a : Addr) (ns : List Int), vs = [.ref a] ∧ SqL K H a (ns.map V.int) ∧ ∀ H' b g, Same H H' → BoxAt H' b g → Q (.ref b) H'
def spRefill : Sp := fun vs H Q _ => ∃ (b g : Addr), vs = [.ref b] ∧ BoxAt H b g ∧ ∀ H', BL [b] H H' → BoxAt H' b g → Q .non H'
def spDraw : Sp := fun vs H Q _ => ∃ (b g : Addr) (m : Int), vs = [.ref b, .int m] ∧ BoxAt H b g ∧ 0 < m ∧ m.natAbs < 2 ^ 200 ∧ ∀ H' r, BL [b] H H' → BoxAt H' b g → 0 ≤ r → r < m → Q (.int r) H'
section
variable {P : Program} {w : World} {K : PySem.W.Frag} {mg : Str → Option Value} {base : Heap}
theorem scMixd : FnScope ["number", "place"] ["number", "place"] (defScope sMixd) := ⟨rfl, rfl, rfl, by decide +kernel, rfl, by decide +kernel, by decide +kernel⟩
theorem ok_mixd {f : Addr} {fd : FuncData} {k : Nat} (F : Fun K "_law_mixed" "_law_mixed" sMixd f fd) (T : Tx mg) : FnOk P w K mg base CX0 (k + 1) f fd ["number", "place"] spMixd := by
  refine F.ok scMixd (fun vs H Q E h => ?_) (fun cdv A outer s H vs Q E hr h => ?_)
  · obtain ⟨i, j, rfl, _⟩ := h
    rfl
  · obtain ⟨i, j, rfl, q⟩ := h
    refine ⟨_, (pss_cons (ps_set (i := 0) scMixd.nd rfl (Or.inl rfl) (pe_op op_mod (pe_callTy call_int1 (by rfl) T.int_ (by decide +kernel) (pa_cons (pe_op op_mul (pe_op op_add (pe_op op_add (pv 0) (pe_op op_mul pe_int (pv 1))) pe_int) pe_int) pa_nil)) pe_int)) (pss_cons (ps_set (i := 0) scMixd.nd rfl (Or.inl rfl) (pe_op op_mod (pe_callTy call_int1 (by rfl) T.int_ (by decide +kernel) (pa_cons (pe_op op_mul (pv 0) (pe_op op_add (pe_op op_fdiv (pv 0) pe_int) pe_int)) pa_nil)) pe_int)) (pss_one (ps_ret (pe_op op_mod (pe_callTy call_int1 (by rfl) T.int_ (by decide +kernel) (pa_cons (pe_op op_mul (pv 0) (pe_op op_add (pe_op op_fdiv (pv 0) pe_int) pe_int)) pa_nil)) pe_int))))), ?_⟩
    refine ⟨_, rfl, _, rfl, _, _, rfl, rfl, .inl ⟨by decide, by decide⟩, _, _, rfl, rfl, _, _, rfl, rfl, _, _, rfl, rfl, .inr ⟨by decide, by decide⟩, .inl ⟨_, rfl, _, _, rfl, rfl, (by show (0 : Int) < 2147483647; decide), ?_⟩⟩
    generalize hn1 : ((i + 7919 * j + 1) * 48271 % 2147483647 : Int) = n1
    have r1 : 0 ≤ n1 ∧ n1 < 2147483647 := by
      rw [← hn1]
      exact mod_in (by decide)
    refine ⟨_, rfl, _, rfl, _, _, rfl, rfl, ⟨by decide, by decide⟩, _, _, rfl, rfl, _, _, rfl, rfl, .inl ⟨by omega, by omega⟩, .inl ⟨_, rfl, _, _, rfl, rfl, (by show (0 : Int) < 2147483647; decide), ?_⟩⟩
    generalize hn2 : (n1 * (n1 / 1009 + 69621) % 2147483647 : Int) = n2
    have r2 : 0 ≤ n2 ∧ n2 < 2147483647 := by
      rw [← hn2]
      exact mod_in (by decide)
    refine ⟨_, rfl, _, rfl, _, _, rfl, rfl, ⟨by decide, by decide⟩, _, _, rfl, rfl, _, _, rfl, rfl, .inl ⟨by omega, by omega⟩, .inl ⟨_, rfl, _, _, rfl, rfl, (by show (0 : Int) < 2147483399; decide), ?_⟩⟩
    exact q _ (mod_in (by decide)).1 (mod_in (by decide)).2
theorem scBox : FnScope ["script"] ["script"] (defScope sBox) := ⟨rfl, rfl, rfl, by decide +kernel, rfl, by decide +kernel, by decide +kernel⟩
theorem ok_box {f : Addr} {fd : FuncData} {k : Nat} (F : Fun K "_law_box" "_law_box" sBox f fd) (T : Tx mg) : FnOk P w K mg base CX0 (k + 1) f fd ["script"] (spBox K) := by
  refine F.ok scBox (fun vs H Q E h => ?_) (fun cdv A outer s H vs Q E hr h => ?_)
  · obtain ⟨a, ns, rfl, _⟩ := h
    rfl
  · obtain ⟨a, ns, rfl, hS, q⟩ := h
    refine ⟨_, (pss_one (ps_ret (pe_disp (pps_cons pe_str (pe_callTy call_list_of (by rfl) T.list_ (by decide +kernel) (pa_cons (pv 0) pa_nil)) (pps_cons pe_str pe_int (pps_cons pe_str pe_int (pps_cons pe_str pe_int (pps_cons pe_str pe_bl (pps_cons pe_str pe_int pps_nil)))))) (by rfl) (by rfl) (fun z => by cases z) (by decide)))), ?_⟩
    refine fun p np => ?_
    have s1 := same_upd (o := HO.dK []) np
    refine ⟨_, rfl, a, _, rfl, .inl (seqL s1 hS), fun l nl => ?_⟩
    have s2 := same_upd (o := HO.lst (ns.map V.int)) nl
    have ngp : l ≠ p := fun e => by rw [e, upd_same] at nl; cases nl
    refine ⟨s2 _ _ upd_same, boxL l 0 0 0 false 0, rfl, by show 6 ≤ 15; decide, ?_⟩
    refine q _ p l (same_put (s1.trans s2) np) ⟨ns, 0, 0, 0, 0, false, upd_same, ?_, by decide, by decide⟩
    rw [upd_ne ngp]
    exact upd_same
theorem scRefill : FnScope ["box", "cell"] ["box"] (defScope sRefill) := ⟨rfl, rfl, rfl, by decide +kernel, rfl, by decide +kernel, by decide +kernel⟩
theorem ok_refill {f : Addr} {fd : FuncData} {k : Nat} (F : Fun K "_law_refill" "_law_refill" sRefill f fd) (T : Tx mg) (cM : Cal P w K mg base (k + 1) "_law_mixed" ["number", "place"] spMixd) : FnOk P w K mg base CX0 (k + 2) f fd ["box"] spRefill := by
  refine F.ok scRefill (fun vs H Q E h => ?_) (fun cdv A outer s H vs Q E hr h => ?_)
  · obtain ⟨b, g, rfl, _⟩ := h
    rfl
  · obtain ⟨b, g, rfl, ⟨ns, at', rest, many, all, great, hb, hg, ha, hr0⟩, q⟩ := h
    have ngb : g ≠ b := BoxAt.ne ⟨ns, at', rest, many, all, great, hb, hg, ha, hr0⟩
    refine ⟨_, (pss_cons (ps_set (i := 1) scRefill.nd rfl (Or.inl rfl) (pe_dget (u1 hr) (pv 0) pe_str (fun _ _ => rfl))) (pss_cons (ps_if (pt_cmpR op_lt (pe_dget (u1 hr) (pv 0) pe_str (fun _ _ => rfl)) (pe_callB call_len_seq (by rfl) T.len_ PySem.boot_len (pa_cons (pe_dget (u1 hr) (pv 0) pe_str (fun _ _ => rfl)) pa_nil)) (nomark _)) (pss_one (ps_set (i := 1) scRefill.nd rfl (Or.inl rfl) (pe_callTy call_int1 (by rfl) T.int_ (by decide +kernel) (pa_cons (pe_ix ix_list (pe_dget (u1 hr) (pv 0) pe_str (fun _ _ => rfl)) (pe_dget (u1 hr) (pv 0) pe_str (fun _ _ => rfl)) (fun _ _ => rfl)) pa_nil)))) pss_nil) (pss_cons (ps_daug (u1 hr) (pv 0) pe_str pe_int in_add (fun _ _ _ => rfl)) (pss_cons (ps_dput (u1 hr) (pv 0) pe_str (pe_cmpR op_ge (pv 1) (pe_op op_pow pe_int pe_int) (nomark _)) rfl) (pss_cons (ps_dput (u1 hr) (pv 0) pe_str (pe_ifExp (pt_val (pe_dget (u1 hr) (pv 0) pe_str (fun _ _ => rfl))) (pv 1) (pe_c cM hr (by omega) (by rfl) (pa_cons (pe_op op_mod (pe_callTy call_int1 (by rfl) T.int_ (by decide +kernel) (pa_cons (pv 1) pa_nil)) pe_int) (pa_cons (pe_dget (u1 hr) (pv 0) pe_str (fun _ _ => rfl)) pa_nil)))) rfl) (pss_one (ps_dput (u1 hr) (pv 0) pe_str (pe_ifExp (pt_val (pe_dget (u1 hr) (pv 0) pe_str (fun _ _ => rfl))) pe_int pe_int) rfl))))))), ?_⟩
    refine seq_set ⟨_, rfl, b, _, rfl, bx_all hb, ?_⟩
    dsimp only
    refine seq_use (fun σ G => ∃ c : Int, σ = [some (.ref b), some (.int c)] ∧ G = H) ?_ (fun hrest => ?_)
    · rintro σ G ⟨c, rfl, rfl⟩
      refine ⟨_, rfl, b, _, rfl, bx_at hb, _, _, rfl, rfl, _, bp_at hb, ?_⟩
      have hb1 : (upd G b (.dK (boxL g (at' + 1) rest many great all))) b = some (.dK (boxL g (at' + 1) rest many great all)) := upd_same
      refine ⟨_, rfl, _, _, rfl, rfl, ⟨by decide, by decide, by decide⟩, _, _, rfl, rfl, _, rfl, b, _, rfl, bp_great hb1, ?_⟩
      rw [upd_upd]
      generalize hy : decide ((10 : Int) ^ (Int.toNat 18) ≤ c) = y
      have hb2 : (upd G b (.dK (boxL g (at' + 1) rest many y all))) b = some (.dK (boxL g (at' + 1) rest many y all)) := upd_same
      dsimp only
      refine seq_use (fun σ G2 => ∃ rs : Int, σ = [some (.ref b), some (.int c)] ∧ 0 ≤ rs ∧ G2 = upd G b (.dK (boxL g (at' + 1) rs many y all))) ?_ (fun hr2 => ?_)
      · rintro σ G2 ⟨rs, rfl, hrs, rfl⟩
        have hb3 : (upd G b (.dK (boxL g (at' + 1) rs many y all))) b = some (.dK (boxL g (at' + 1) rs many y all)) := upd_same
        have fin : ∀ mm : Int, Q .non (upd (upd G b (.dK (boxL g (at' + 1) rs many y all))) b (.dK (boxL g (at' + 1) rs mm y all))) := fun mm => by
          rw [upd_upd]
          exact q _ (.upd (by simp)) ⟨ns, at' + 1, rs, mm, all, y, upd_same, by rw [upd_ne ngb]; exact hg, by omega, hrs⟩
        refine ⟨_, rfl, b, _, rfl, bx_great hb3, _, rfl, ite2 (fun _ => ⟨_, rfl, b, _, rfl, bp_many hb3, fin _⟩) (fun _ => ⟨_, rfl, b, _, rfl, bp_many hb3, fin _⟩)⟩
      · refine ⟨_, rfl, b, _, rfl, bx_great hb2, _, rfl, ite2 (fun hc => ⟨_, rfl, _, rfl, b, _, rfl, bp_rest hb2, ?_⟩) (fun _ => ⟨_, rfl, .inl ⟨c, rfl, _, _, rfl, rfl, (by show (0 : Int) < 2147483647; decide), _, rfl, b, _, rfl, bx_at hb2, _, _, rfl, fun r r0 _ => ⟨_, rfl, b, _, rfl, bp_rest hb2, ?_⟩⟩⟩)⟩
        · rw [upd_upd]
          refine hr2 _ _ ⟨c, rfl, ?_, rfl⟩
          have h18 : (10 : Int) ^ (Int.toNat 18) ≤ c := of_decide_eq_true (hy.trans hc)
          have h0 : (0 : Int) ≤ (10 : Int) ^ (Int.toNat 18) := by decide
          omega
        · rw [upd_upd]
          exact hr2 _ _ ⟨r, rfl, r0, rfl⟩
    · refine ⟨_, rfl, b, _, rfl, bx_at hb, _, rfl, b, _, rfl, bx_cells hb, g, _, rfl, .inl (.of hg), _, _, rfl, rfl, _, rfl, ?_⟩
      refine ite2 (fun hl => ?_) (fun _ => hrest _ _ ⟨all, rfl, rfl⟩)
      have hl2 := of_decide_eq_true hl
      rw [List.length_map] at hl2
      obtain ⟨j, rfl⟩ : ∃ j : Nat, at' = j := ⟨at'.toNat, by omega⟩
      have hj : j < ns.length := by omega
      exact ⟨_, rfl, b, _, rfl, bx_cells hb, _, rfl, b, _, rfl, bx_at hb, g, _, _, .int ns[j], rfl, rfl, .of hg, atI_nat (by rw [List.getElem?_map, List.getElem?_eq_getElem hj]; rfl), .inl ⟨_, rfl, hrest _ _ ⟨ns[j], rfl, rfl⟩⟩⟩
theorem scDraw : FnScope ["box", "menu", "rest"] ["box", "menu"] (defScope sDraw) := ⟨rfl, rfl, rfl, by decide +kernel, rfl, by decide +kernel, by decide +kernel⟩
theorem ok_draw {f : Addr} {fd : FuncData} {k : Nat} (F : Fun K "_law_draw" "_law_draw" sDraw f fd) (T : Tx mg) (cM : Cal P w K mg base (k + 2) "_law_mixed" ["number", "place"] spMixd) (cR : Cal P w K mg base (k + 2) "_law_refill" ["box"] spRefill) : FnOk P w K mg base CX0 (k + 3) f fd ["box", "menu"] spDraw := by
  refine F.ok scDraw (fun vs H Q E h => ?_) (fun cdv A outer s H vs Q E hr h => ?_)
  · obtain ⟨b, g, m, rfl, _⟩ := h
    rfl
  · obtain ⟨b, g, m, rfl, hB, hm0, hm1, q⟩ := h
    refine ⟨_, (pss_cons (ps_if (pt_or (pt_cmpR op_eq (pe_dget (u1 hr) (pv 0) pe_str (fun _ _ => rfl)) pe_int (nomark _)) (pw_or1 (pt_and (pt_val (pe_dget (u1 hr) (pv 0) pe_str (fun _ _ => rfl))) (pw_and1 (pt_cmpR op_eq (pe_dget (u1 hr) (pv 0) pe_str (fun _ _ => rfl)) pe_int (nomark _)))))) (pss_one (ps_expr (pe_c cR hr (by omega) (by rfl) (pa_cons (pv 0) pa_nil)))) pss_nil) (pss_cons (ps_daug (u1 hr) (pv 0) pe_str pe_int in_sub (fun _ _ _ => rfl)) (pss_cons (ps_daug (u1 hr) (pv 0) pe_str pe_int in_add (fun _ _ _ => rfl)) (pss_cons (ps_set (i := 2) scDraw.nd rfl (Or.inl rfl) (pe_callTy call_int1 (by rfl) T.int_ (by decide +kernel) (pa_cons (pe_dget (u1 hr) (pv 0) pe_str (fun _ _ => rfl)) pa_nil))) (pss_cons (ps_if (pt_val (pe_dget (u1 hr) (pv 0) pe_str (fun _ _ => rfl))) (pss_cons (ps_dput (u1 hr) (pv 0) pe_str (pe_op op_fdivW (pv 2) (pv 1)) rfl) (pss_one (ps_ret (pe_op op_mod (pe_callTy call_int1 (by rfl) T.int_ (by decide +kernel) (pa_cons (pv 2) pa_nil)) (pv 1))))) pss_nil) (pss_cons (ps_dput (u1 hr) (pv 0) pe_str (pe_c cM hr (by omega) (by rfl) (pa_cons (pv 2) (pa_cons (pe_dget (u1 hr) (pv 0) pe_str (fun _ _ => rfl)) pa_nil))) rfl) (pss_one (ps_ret (pe_op op_mod (pe_callTy call_int1 (by rfl) T.int_ (by decide +kernel) (pa_cons (pe_op op_fdiv (pv 2) pe_int) pa_nil)) (pv 1)))))))))), ?_⟩
    refine seq_use (fun σ G => σ = [some (.ref b), some (.int m), none] ∧ BL [b] H G ∧ BoxAt G b g) ?_ (fun hrest => ?_)
    · rintro σ G ⟨rfl, bl, hBG⟩
      have ngb := hBG.ne
      obtain ⟨ns, at', rest, many, all, great, hb, hg, ha, hr0⟩ := hBG
      refine ⟨_, rfl, b, _, rfl, bx_many hb, _, _, rfl, rfl, _, bp_many hb, ?_⟩
      have hb1 : (upd G b (.dK (boxL g at' rest (many - 1) great all))) b = some (.dK (boxL g at' rest (many - 1) great all)) := upd_same
      refine ⟨_, rfl, b, _, rfl, bx_all hb1, _, _, rfl, rfl, _, bp_all hb1, ?_⟩
      rw [upd_upd]
      have hb2 : (upd G b (.dK (boxL g at' rest (many - 1) great (all + 1)))) b = some (.dK (boxL g at' rest (many - 1) great (all + 1))) := upd_same
      have fin : ∀ (rs v : Int), 0 ≤ rs → 0 ≤ v → v < m → Q (.int v) (upd (upd G b (.dK (boxL g at' rest (many - 1) great (all + 1)))) b (.dK (boxL g at' rs (many - 1) great (all + 1)))) := fun rs v h0 h1 h2 => by
        rw [upd_upd]
        exact q _ v (bl.trans (.upd (by simp))) ⟨ns, at', rs, many - 1, all + 1, great, upd_same, by rw [upd_ne ngb]; exact hg, ha, h0⟩ h1 h2
      refine ⟨_, rfl, b, _, rfl, bx_rest hb2, .inl ⟨rest, rfl, ?_⟩⟩
      refine ⟨_, rfl, b, _, rfl, bx_great hb2, _, rfl, ?_⟩
      refine ite2 (fun _ => ?_) (fun _ => ?_)
      · refine ⟨_, rfl, _, rfl, _, _, rfl, rfl, wide_div hm0 hm1 (by decide) (by decide), _, rfl, b, _, rfl, bp_rest hb2, ?_⟩
        exact ⟨_, rfl, .inl ⟨rest, rfl, _, rfl, _, _, rfl, rfl, hm0, fin _ _ (Int.ediv_nonneg hr0 (by omega)) (mod_in hm0).1 (mod_in hm0).2⟩⟩
      · refine ⟨_, rfl, _, rfl, b, _, rfl, bx_all hb2, _, _, rfl, fun r r0 _ => ⟨_, rfl, b, _, rfl, bp_rest hb2, ?_⟩⟩
        exact ⟨_, rfl, _, _, rfl, rfl, ⟨by decide, by decide⟩, .inl ⟨_, rfl, _, rfl, _, _, rfl, rfl, hm0, fin _ _ r0 (mod_in hm0).1 (mod_in hm0).2⟩⟩
    · obtain ⟨ns, at', rest, many, all, great, hb, hg, ha, hr0⟩ := id hB
      refine ⟨_, rfl, b, _, rfl, bx_many hb, rfl, _, rfl, ?_⟩
      refine ite2 (fun _ => ⟨_, rfl, b, g, rfl, hB, fun G bl hBG => hrest _ _ ⟨rfl, bl, hBG⟩⟩) (fun _ => ?_)
      refine ⟨_, rfl, b, _, rfl, bx_great hb, _, rfl, ?_⟩
      cases great with
      | false => exact iteF (hrest _ _ ⟨rfl, .refl, hB⟩)
      | true =>
        refine iteT ⟨_, rfl, b, _, rfl, bx_rest hb, rfl, _, rfl, ?_⟩
        exact ite2 (fun _ => ⟨_, rfl, b, g, rfl, hB, fun G bl hBG => hrest _ _ ⟨rfl, bl, hBG⟩⟩) (fun _ => hrest _ _ ⟨rfl, .refl, hB⟩)
end
end L2.My
end
section
set_option Elab.async false
set_option linter.all false
set_option maxRecDepth 100000
set_option maxHeartbeats 4000000
namespace L2.My
open PySem PySem.Spec PyProof.Rows
abbrev sBelow : Stmt := top 14
abbrev sWord : Stmt := top 26
/-! ### things of any kind: seen as deep as one likes, none the hand at b -/
/-- no int is greater -/
def maxI : Int := 10 ^ 40
def Sh0 (b : Addr) (H : Hp) (v : V) : Prop := (∃ t, ThT H v t) ∧ v ≠ .ref b ∧ (∀ z, v = .str z → z.length ≤ 5000) ∧ ∀ i, v = .int i → i ≤ maxI
def Sh (b : Addr) (H : Hp) : Nat → V → Prop
  | 0, v => Sh0 b H v
  | n + 1, v => Sh0 b H v ∧ ∀ a xs, v = .ref a → H a = some (.tup xs) → xs.length ≤ 5000 ∧ ∀ x ∈ xs, Sh b H n x
def Thg (b : Addr) (H : Hp) (v : V) : Prop := ∀ n, Sh b H n v
theorem ThT.stay {b : Addr} {H H' : Hp} {v : V} {t : String} (h : ThT H v t) (n : v ≠ .ref b) (s : BL [b] H H') : ThT H' v t := by
  cases h with
  | non => exact .non
  | bl c => exact .bl c
  | int i => exact .int i
  | str x => exact .str x
  | lst h => exact .lst (s _ _ (by simpa using fun e => n (by rw [e])) h)
  | tup h => exact .tup (s _ _ (by simpa using fun e => n (by rw [e])) h)
  | dct h => exact .dct (s _ _ (by simpa using fun e => n (by rw [e])) h)
theorem Sh0.bl {b : Addr} {H H' : Hp} {v : V} (h : Sh0 b H v) (s : BL [b] H H') : Sh0 b H' v := by
  obtain ⟨⟨t, h1⟩, h2, h3⟩ := h
  exact ⟨⟨t, h1.stay h2 s⟩, h2, h3⟩
theorem ThT.back {b : Addr} {H H' : Hp} {a : Addr} {t : String} (h : ThT H (.ref a) t) (n : V.ref a ≠ .ref b) (s : BL [b] H H') {xs : List V} (e : H' a = some (.tup xs)) : H a = some (.tup xs) := by
  have nb : a ∉ [b] := by simpa using fun e => n (by rw [e])
  cases h with
  | lst h => rw [s _ _ nb h] at e; cases e
  | tup h => rw [s _ _ nb h] at e; cases e; exact h
  | dct h => rw [s _ _ nb h] at e; cases e
theorem Sh.bl {b : Addr} {H H' : Hp} (s : BL [b] H H') : ∀ {n : Nat} {v : V}, Sh b H n v → Sh b H' n v
  | 0, v, h => Sh0.bl h s
  | n + 1, v, h => by
    refine ⟨h.1.bl s, fun a xs e ea => ?_⟩
    subst e
    obtain ⟨⟨t, h1⟩, h2, _⟩ := h.1
    obtain ⟨q1, q2⟩ := h.2 a xs rfl (h1.back h2 s ea)
    exact ⟨q1, fun x hx => Sh.bl s (q2 x hx)⟩
theorem Thg.bl {b : Addr} {H H' : Hp} {v : V} (h : Thg b H v) (s : BL [b] H H') : Thg b H' v := fun n => (h n).bl s
theorem Thg.same {b : Addr} {H H' : Hp} {v : V} (h : Thg b H v) (s : Same H H') : Thg b H' v := h.bl (.same s)
theorem Thg.th {b : Addr} {H : Hp} {v : V} (h : Thg b H v) : ∃ t, ThT H v t := (h 0).1
theorem Thg.len {b : Addr} {H : Hp} {z : Str} (h : Thg b H (.str z)) : z.length ≤ 5000 := (h 0).2.2.1 z rfl
theorem Thg.sub {b a : Addr} {H : Hp} {xs : List V} (h : Thg b H (.ref a)) (e : H a = some (.tup xs)) : xs.length ≤ 5000 ∧ ∀ x ∈ xs, Thg b H x := ⟨((h 1).2 a xs rfl e).1, fun x hx n => ((h (n + 1)).2 a xs rfl e).2 x hx⟩
theorem Thg.tup {b a : Addr} {H : Hp} {xs : List V} (e : H a = some (.tup xs)) (n : a ≠ b) (hl : xs.length ≤ 5000) (h : ∀ x ∈ xs, Thg b H x) : Thg b H (.ref a) := by
  have h0 : Sh0 b H (.ref a) := ⟨⟨_, .tup e⟩, fun z => n (V.ref.inj z), (fun z q => nomatch q), fun i q => nomatch q⟩
  intro k
  cases k with
  | zero => exact h0
  | succ k =>
    refine ⟨h0, fun a' ys q e' => ?_⟩
    cases q
    rw [e] at e'
    cases e'
    exact ⟨hl, fun x hx => h x hx k⟩
theorem Thg.lst {b a : Addr} {H : Hp} {xs : List V} (e : H a = some (.lst xs)) (n : a ≠ b) : Thg b H (.ref a) := by
  have h0 : Sh0 b H (.ref a) := ⟨⟨_, .lst e⟩, fun z => n (V.ref.inj z), (fun z q => nomatch q), fun i q => nomatch q⟩
  intro k
  cases k with
  | zero => exact h0
  | succ k =>
    refine ⟨h0, fun a' ys q e' => ?_⟩
    cases q
    rw [e] at e'
    cases e'
theorem Thg.dct {b a : Addr} {H : Hp} {kvs : List (Key × V)} (e : H a = some (.dK kvs)) (n : a ≠ b) : Thg b H (.ref a) := by
  have h0 : Sh0 b H (.ref a) := ⟨⟨_, .dct e⟩, fun z => n (V.ref.inj z), (fun z q => nomatch q), fun i q => nomatch q⟩
  intro k
  cases k with
  | zero => exact h0
  | succ k =>
    refine ⟨h0, fun a' ys q e' => ?_⟩
    cases q
    rw [e] at e'
    cases e'
theorem thg_flat {b : Addr} {H : Hp} {v : V} (h0 : Sh0 b H v) (h : ∀ a, v ≠ .ref a) : Thg b H v := by
  intro k
  cases k with
  | zero => exact h0
  | succ k => exact ⟨h0, fun a xs e _ => absurd e (h a)⟩
theorem Thg.non {b : Addr} {H : Hp} : Thg b H .non := thg_flat ⟨⟨_, .non⟩, (fun z => nomatch z), (fun z q => nomatch q), fun i q => nomatch q⟩ fun a z => nomatch z
theorem Thg.int {b : Addr} {H : Hp} (i : Int) (h : i ≤ maxI) : Thg b H (.int i) := thg_flat ⟨⟨_, .int i⟩, (fun z => nomatch z), (fun z q => nomatch q), fun j q => by cases q; exact h⟩ fun a z => nomatch z
theorem Thg.le {b : Addr} {H : Hp} {i : Int} (h : Thg b H (.int i)) : i ≤ maxI := (h 0).2.2.2 i rfl
theorem Thg.boo {b : Addr} {H : Hp} (i : Bool) : Thg b H (.bl i) := thg_flat ⟨⟨_, .bl i⟩, (fun z => nomatch z), (fun z q => nomatch q), fun i q => nomatch q⟩ fun a z => nomatch z
theorem Thg.str {b : Addr} {H : Hp} (z : Str) (h : z.length ≤ 5000) : Thg b H (.str z) := thg_flat ⟨⟨_, .str z⟩, (fun z => nomatch z), (fun y q => by cases q; exact h), fun i q => nomatch q⟩ fun a z => nomatch z
/-! ### the verdicts, read off the heap -/
def tupO : Option HO → Option (List V)
  | some (.tup xs) => some xs
  | _ => none
def tupOf (H : Hp) : V → Option (List V)
  | .ref a => tupO (H a)
  | _ => none
def signB (c : Nat) : Bool := decide (97 ≤ c) && decide (c ≤ 122)
def wordB (z : Str) : Bool := decide (1 ≤ z.length) && (decide (z.length ≤ 12) && z.cps.toList.all signB)
def wordV : V → Bool
  | .str z => wordB z
  | _ => false
theorem tupOf_at {H : Hp} {a : Addr} {xs : List V} (h : H a = some (.tup xs)) : tupOf H (.ref a) = some xs := by
  show tupO (H a) = _
  rw [h]
  rfl
theorem tupOf_lst {H : Hp} {a : Addr} {xs : List V} (h : H a = some (.lst xs)) : tupOf H (.ref a) = none := by
  show tupO (H a) = _
  rw [h]
  rfl
theorem tupOf_dct {H : Hp} {a : Addr} {xs : List (Key × V)} (h : H a = some (.dK xs)) : tupOf H (.ref a) = none := by
  show tupO (H a) = _
  rw [h]
  rfl
theorem tup_cases {H : Hp} {v : V} {t : String} (h : ThT H v t) : (∃ a xs, v = .ref a ∧ H a = some (.tup xs) ∧ tupOf H v = some xs ∧ t = "tuple") ∨ (tupOf H v = none ∧ instT t "tuple" = false) := by
  cases h with
  | non => exact .inr ⟨rfl, by decide⟩
  | bl c => exact .inr ⟨rfl, by decide⟩
  | int i => exact .inr ⟨rfl, by decide⟩
  | str x => exact .inr ⟨rfl, by decide⟩
  | lst h => exact .inr ⟨tupOf_lst h, by decide⟩
  | tup h => exact .inl ⟨_, _, rfl, h, tupOf_at h, rfl⟩
  | dct h => exact .inr ⟨tupOf_dct h, by decide⟩
theorem str_cases {H : Hp} {v : V} {t : String} (h : ThT H v t) : (∃ z, v = .str z ∧ t = "str") ∨ (wordV v = false ∧ instT t "str" = false) := by
  cases h with
  | str x => exact .inl ⟨x, rfl, rfl⟩
  | _ => exact .inr ⟨rfl, by decide⟩
theorem int_cases {H : Hp} {v : V} {t : String} {n : Int} (h : ThT H v t) : (∃ i, v = .int i ∧ t = "int") ∨ (∃ c, v = .bl c ∧ t = "bool") ∨ (belowV n v = false ∧ instT t "int" = false) := by
  cases h with
  | int i => exact .inl ⟨i, rfl, rfl⟩
  | bl c => exact .inr (.inl ⟨c, rfl, rfl⟩)
  | _ => exact .inr (.inr ⟨rfl, by decide⟩)
theorem tupOf_bl {b : Addr} {H H' : Hp} {v : V} (h : Thg b H v) (s : BL [b] H H') : tupOf H' v = tupOf H v := by
  obtain ⟨⟨t, h1⟩, h2, _⟩ := h 0
  cases h1 with
  | non => rfl
  | bl c => rfl
  | int i => rfl
  | str x => rfl
  | lst h' =>
    have e := s _ _ (by simpa using fun e => h2 (by rw [e])) h'
    rw [tupOf_lst h', tupOf_lst e]
  | tup h' =>
    have e := s _ _ (by simpa using fun e => h2 (by rw [e])) h'
    rw [tupOf_at h', tupOf_at e]
  | dct h' =>
    have e := s _ _ (by simpa using fun e => h2 (by rw [e])) h'
    rw [tupOf_dct h', tupOf_dct e]
theorem tupOf_sub {b : Addr} {H : Hp} {v : V} {xs : List V} (h : Thg b H v) (e : tupOf H v = some xs) : ∃ a, v = .ref a ∧ H a = some (.tup xs) ∧ xs.length ≤ 5000 ∧ ∀ x ∈ xs, Thg b H x := by
  obtain ⟨t, ht⟩ := h.th
  rcases tup_cases ht with ⟨a, ys, rfl, h1, h2, _⟩ | ⟨h1, _⟩
  · rw [h2] at e
    cases e
    obtain ⟨q1, q2⟩ := h.sub h1
    exact ⟨a, rfl, h1, q1, q2⟩
  · rw [h1] at e; cases e
theorem all_congr {α : Type} {p q : α → Bool} : ∀ {xs : List α}, (∀ x ∈ xs, p x = q x) → xs.all p = xs.all q
  | [], _ => rfl
  | x :: r, h => by
    rw [List.all_cons, List.all_cons, h x List.mem_cons_self, all_congr fun y hy => h y (List.mem_cons_of_mem _ hy)]
theorem range_all {α : Type} (p : α → Bool) (d : α) (xs : List α) : ((List.range xs.length).map fun i => p (xs.getD i d)).all id = xs.all p := by
  rw [List.all_map]
  induction xs with
  | nil => rfl
  | cons x r ih =>
    rw [List.length_cons, List.range_succ_eq_map, List.all_cons, List.all_cons, List.all_map]
    rw [← ih]
    rfl
/-! ### the judges -/
def spBelow : Sp := fun vs H Q _ => ∃ (b : Addr) (n : Int) (v : V), vs = [.int n, v] ∧ Thg b H v ∧ Q (.bl (belowV n v)) H
def spWord : Sp := fun vs H Q _ => ∃ (b : Addr) (v : V), vs = [v] ∧ Thg b H v ∧ ∀ H', Same H H' → Q (.bl (wordV v)) H'
section
variable {P : Program} {w : World} {K : PySem.W.Frag} {mg : Str → Option Value} {base : Heap}
theorem scBelow : FnScope ["bound", "thing"] ["bound", "thing"] (defScope sBelow) := ⟨rfl, rfl, rfl, by decide +kernel, rfl, by decide +kernel, by decide +kernel⟩
theorem ok_below {f : Addr} {fd : FuncData} {k : Nat} (F : Fun K "is_below" "is_below" sBelow f fd) (T : Tx mg) : FnOk P w K mg base CX0 (k + 1) f fd ["bound", "thing"] spBelow := by
  refine F.ok scBelow (fun vs H Q E h => ?_) (fun cdv A outer s H vs Q E hr h => ?_)
  · obtain ⟨b, n, v, rfl, _⟩ := h
    rfl
  · obtain ⟨b, n, v, rfl, hv, q⟩ := h
    obtain ⟨t, ht⟩ := hv.th
    refine ⟨_, (pss_cons (ps_if (pt_or (pt_not (pt_val (pe_callB call_isTh (by rfl) T.isi (by decide +kernel) (pa_cons (pv 1) (pa_cons (pe_bltn (v := .ty "int") (u := .type "int") (by rfl) T.int_ (by decide +kernel) rfl) pa_nil))))) (pw_or1 (pt_val (pe_callB call_isTh (by rfl) T.isi (by decide +kernel) (pa_cons (pv 1) (pa_cons (pe_bltn (v := .ty "bool") (u := .type "bool") (by rfl) T.bool_ (by decide +kernel) rfl) pa_nil)))))) (pss_one (ps_ret pe_bl)) pss_nil) (pss_one (ps_ret (pe_chain op_le op_lt pe_int (pv 1) (pv 0))))), ?_⟩
    refine ⟨_, rfl, _, "int", t, rfl, ht, by decide, _, rfl, ?_⟩
    rcases int_cases (n := n) ht with ⟨i, rfl, rfl⟩ | ⟨c, rfl, rfl⟩ | ⟨e1, e2⟩
    · refine iteF ⟨_, rfl, _, "bool", _, rfl, .int i, by decide, _, rfl, iteF ?_⟩
      refine ⟨_, rfl, _, _, rfl, rfl, _, rfl, ?_⟩
      by_cases h0 : 0 ≤ i
      · rw [decide_eq_true h0]
        refine iteT ⟨_, rfl, _, _, rfl, rfl, ?_⟩
        have e : belowV n (.int i) = decide (i < n) := by
          show decide (0 ≤ i ∧ i < n) = _
          simp [h0]
        rw [e] at q
        exact q
      · rw [decide_eq_false h0]
        refine iteF ?_
        have e : belowV n (.int i) = false := decide_eq_false fun z => h0 z.1
        rw [e] at q
        exact q
    · exact iteF ⟨_, rfl, _, "bool", _, rfl, .bl c, by decide, _, rfl, iteT q⟩
    · rw [e2]
      rw [e1] at q
      exact iteT q
theorem scWord : FnScope ["thing", "sign"] ["thing"] (defScope sWord) := ⟨rfl, rfl, rfl, by decide +kernel, rfl, by decide +kernel, by decide +kernel⟩
theorem ok_word {f : Addr} {fd : FuncData} {k : Nat} (F : Fun K "is_word" "is_word" sWord f fd) (T : Tx mg) : FnOk P w K mg base CX0 (k + 1) f fd ["thing"] spWord := by
  obtain ⟨tm, hm⟩ := T.ml
  refine F.ok scWord (fun vs H Q E h => ?_) (fun cdv A outer s H vs Q E hr h => ?_)
  · obtain ⟨b, v, rfl, _⟩ := h
    rfl
  · obtain ⟨b, v, rfl, hv, q⟩ := h
    obtain ⟨t, ht⟩ := hv.th
    refine ⟨_, (pss_cons (ps_if (pt_or (pt_not (pt_val (pe_callB call_isTh (by rfl) T.isi (by decide +kernel) (pa_cons (pv 0) (pa_cons (pe_bltn (v := .ty "str") (u := .type "str") (by rfl) T.str_ (by decide +kernel) rfl) pa_nil))))) (pw_or1 (pt_not (pt_chain op_le op_le pe_int (pe_callB call_len_str (by rfl) T.len_ PySem.boot_len (pa_cons (pv 0) pa_nil)) (pe_glob (v := .int 12) (by rfl) hm ⟨_, rfl⟩))))) (pss_one (ps_ret pe_bl)) pss_nil) (pss_one (ps_ret (pe_callB (cr_all rfl) (by rfl) T.all_ (by decide +kernel) (pa_cons (pe_lc (own := [("sign", 1)]) (g := gName 1) rfl scWord.nd (pi_str (pv 0)) (blkOk_by (N := ["thing", "sign"]) (sc := defScope sWord) (by decide +kernel)) (fun _ _ _ _ _ => pg_name (i := 1) scWord.nd rfl (Or.inl rfl)) (fun _ _ _ _ _ => pts_nil) (fun _ _ _ _ _ => (pe_chain op_le_str op_le_str pe_str (pv 1) pe_str))) pa_nil))))), ?_⟩
    refine ⟨_, rfl, _, "str", t, rfl, ht, by decide, _, rfl, ?_⟩
    rcases str_cases ht with ⟨z, rfl, rfl⟩ | ⟨e1, e2⟩
    · have ls : z.length ≤ sizeLine := Nat.le_trans hv.len (by decide)
      refine iteF ⟨_, rfl, z, rfl, ls, _, _, rfl, rfl, _, rfl, ?_⟩
      by_cases h1 : 1 ≤ z.length
      · rw [decide_eq_true (by omega)]
        refine iteT ⟨_, _, rfl, rfl, _, rfl, ?_⟩
        by_cases h2 : z.length ≤ 12
        · rw [decide_eq_true (by omega)]
          refine iteF ?_
          refine ⟨_, rfl, _, rfl, fun D hD => ?_⟩
          refine lcP walk_str (fun i => V.bl (signB (z.cps.toList.getD i 0))) (Nat.lt_of_le_of_lt (show z.cps.size ≤ 12 from h2) (by decide)) hD (fun _ _ => trivial) ?_ ?_
          · rintro i y H1 H2 Q' hi sm ⟨rfl, c, hc, rfl⟩ hq
            have hcm : z.cps.toList.getD i 0 = c := by
              rw [← Array.getElem?_toList] at hc
              rw [List.getD_eq_getElem?_getD, hc]
              rfl
            rw [hcm] at hq
            have e1 : (⟨#[c]⟩ : Str).cps.toList = [c] := rfl
            have e2 : (("a" : Str).cps.toList) = [97] := by decide +kernel
            have e3 : (("z" : Str).cps.toList) = [122] := by decide +kernel
            refine ⟨rfl, _, rfl, _, _, rfl, rfl, _, rfl, ?_⟩
            rw [e1, e2, lt1]
            by_cases c1 : 97 ≤ c
            · rw [decide_eq_false (show ¬ c < 97 by omega)]
              refine iteT ⟨_, _, rfl, rfl, ?_⟩
              rw [e1, e3, lt1]
              have e : signB c = !decide (122 < c) := by
                unfold signB
                rw [decide_eq_true c1, Bool.true_and]
                by_cases c2 : c ≤ 122
                · rw [decide_eq_true c2, decide_eq_false (by omega)]; rfl
                · rw [decide_eq_false c2, decide_eq_true (by omega)]; rfl
              rw [e] at hq
              exact hq _ (Same.refl _)
            · rw [decide_eq_true (show c < 97 by omega)]
              have e : signB c = false := by
                unfold signB
                rw [decide_eq_false c1]; rfl
              rw [e] at hq
              exact iteF (hq _ (Same.refl _))
          · intro H' sm hd
            refine ⟨D, (List.range z.cps.size).map fun i => signB (z.cps.toList.getD i 0), rfl, .inl (.inl (by rw [hd, List.map_map]; rfl)), ?_⟩
            have e := range_all signB 0 z.cps.toList
            rw [Array.length_toList] at e
            rw [e]
            have e4 : wordV (.str z) = z.cps.toList.all signB := by
              show wordB z = _
              unfold wordB
              rw [decide_eq_true h1, decide_eq_true h2]
              rfl
            rw [e4] at q
            exact q _ sm
        · rw [decide_eq_false (by omega)]
          have e4 : wordV (.str z) = false := by
            show wordB z = _
            unfold wordB
            rw [decide_eq_false h2]
            simp
          rw [e4] at q
          exact iteT (q _ (Same.refl _))
      · rw [decide_eq_false (by omega)]
        have e4 : wordV (.str z) = false := by
          show wordB z = _
          unfold wordB
          rw [decide_eq_false h1]
          rfl
        rw [e4] at q
        exact iteF ⟨_, rfl, iteT (q _ (Same.refl _))⟩
    · rw [e2]
      rw [e1] at q
      exact iteT (q _ (Same.refl _))
end
end L2.My
end
section
set_option Elab.async false
set_option linter.all false
set_option maxRecDepth 100000
set_option maxHeartbeats 4000000
/-! The judges' verdicts, read off the heap; the small ones. -/
namespace L2.My
open PySem PySem.Spec PyProof.Rows
abbrev sNumb : Stmt := top 27
abbrev sAsc : Stmt := top 28
abbrev sPair : Stmt := top 31
abbrev sMemb : Stmt := top 32
theorem lt_un {k : Nat} {A : Around} (r : Room k A) : A.units < cLine := by have := r.un; omega
theorem u2 {k : Nat} {A : Around} (h : Room k A) : A.units + 2 < cLine := by have := h.un; omega
theorem u64 {k : Nat} {A : Around} (h : Room k A) : A.units + 64 < cLine := by have := h.un; omega
def iV : V → Nat
  | .int i => i.toNat
  | _ => 0
def intV : V → Int
  | .int i => i
  | _ => 0
def numV : V → Bool
  | .int i => decide (0 ≤ i)
  | _ => false
def notNon : V → Bool
  | .non => false
  | _ => true
def pairB (H : Hp) (v : V) : Bool := match tupOf H v with
  | some [_, _] => true
  | _ => false
def memB (H : Hp) (v : V) : Bool := match tupOf H v with
  | some [x, y] => wordV x && numV y
  | _ => false
def nameV (H : Hp) (v : V) : Str := match tupOf H v with
  | some (.str z :: _) => z
  | _ => ""
def leavesB (H : Hp) (h : Nat) (v : V) : Bool := match tupOf H v with
  | some xs => decide (xs.length = 2 ^ h) && ((xs.filter notNon).all (memB H) && decide (((xs.filter notNon).map (nameV H)).Nodup))
  | none => false
def nodeB (H : Hp) (h : Nat) (v : V) : Bool := match tupOf H v with
  | some [x, y] => belowV ((h : Int) + 1) x && belowV ((2 : Int) ^ (h - iV x)) y
  | _ => false
/-- the two numbers of a node -/
def nodI (H : Hp) (v : V) : List Int := match tupOf H v with
  | some xs => xs.map intV
  | none => []
def levV (H : Hp) (v : V) : Nat := match tupOf H v with
  | some (x :: _) => iV x
  | _ => 0
def atV (H : Hp) (v : V) : Nat := match tupOf H v with
  | some (_ :: y :: _) => iV y
  | _ => 0
def ascBy {α : Type} (lt : α → α → Bool) : List α → Bool
  | [] => true
  | [_] => true
  | f :: g :: r => lt f g && ascBy lt (g :: r)
def ltI (i j : Int) : Bool := decide (i < j)
def asideB (H : Hp) (ls : List V) (lev at' : Nat) (v : V) : Bool := match tupOf H v with
  | some xs => xs.all (belowV (ls.length : Int)) && (ascBy ltI (xs.map intV) && xs.all fun x => decide (iV x / 2 ^ lev = at') && notNon (ls.getD (iV x) .non))
  | none => false
def keptB (H : Hp) (h : Nat) (ls : List V) (v : V) : Bool := match tupOf H v with
  | some [n, l, a] => nodeB H h n && (decide (levV H n ≠ 0) && (numV l && asideB H ls (levV H n) (atV H n) a))
  | _ => false
/-- a row's node -/
def rowI (H : Hp) (v : V) : List Int := match tupOf H v with
  | some (n :: _) => nodI H n
  | _ => []
def nodesB (H : Hp) (h : Nat) (ls : List V) (v : V) : Bool := match tupOf H v with
  | some xs => xs.all (keptB H h ls) && ascBy HT.lexLt (xs.map (rowI H))
  | none => false
theorem ascBy_all {α : Type} (lt : α → α → Bool) (d : α) : ∀ (fs : List α), ((List.range (fs.length - 1)).map fun i => lt (fs.getD i d) (fs.getD (i + 1) d)).all id = ascBy lt fs
  | [] => rfl
  | [_] => rfl
  | f :: g :: r => by
    have ih := ascBy_all lt d (g :: r)
    have e : (f :: g :: r).length - 1 = ((g :: r).length - 1) + 1 := by simp
    rw [e, List.range_succ_eq_map, List.map_cons, List.all_cons, List.map_map]
    show (lt f g && _) = (lt f g && ascBy lt (g :: r))
    rw [← ih]
    rfl
theorem pairB_at {H : Hp} {v : V} {xs : List V} (h : tupOf H v = some xs) : pairB H v = decide (V.int (xs.length : Nat) = V.int 2) := by
  unfold pairB
  rw [h, dec_int]
  match xs with
  | [] => rfl
  | [_] => rfl
  | [_, _] => rfl
  | _ :: _ :: _ :: r =>
    show false = _
    symm
    rw [beq_eq_false_iff_ne]
    simp only [List.length_cons]
    omega
theorem pairB_no {H : Hp} {v : V} (h : tupOf H v = none) : pairB H v = false := by unfold pairB; rw [h]
theorem pair_of {b : Addr} {H : Hp} {v : V} (t : Thg b H v) (h : pairB H v = true) : ∃ a x y, v = .ref a ∧ H a = some (.tup [x, y]) ∧ tupOf H v = some [x, y] ∧ Thg b H x ∧ Thg b H y := by
  cases e : tupOf H v with
  | none => rw [pairB_no e] at h; cases h
  | some xs =>
    obtain ⟨a, rfl, ha, _, q⟩ := tupOf_sub t e
    rw [pairB_at e, dec_int, beq_iff_eq] at h
    match xs, q, ha, h with
    | [x, y], q, ha, _ => exact ⟨a, x, y, rfl, ha, rfl, q x (by simp), q y (by simp)⟩
    | [], _, _, h => simp at h
    | [_], _, _, h => simp at h
    | _ :: _ :: _ :: r, _, _, h => simp only [List.length_cons] at h; omega
theorem memB_no {H : Hp} {v : V} (h : pairB H v = false) : memB H v = false := by
  unfold pairB at h
  unfold memB
  split <;> simp_all
theorem memB_at {H : Hp} {v x y : V} (h : tupOf H v = some [x, y]) : memB H v = (wordV x && numV y) := by unfold memB; rw [h]
def spNumb : Sp := fun vs H Q _ => ∃ (b : Addr) (v : V), vs = [v] ∧ Thg b H v ∧ Q (.bl (numV v)) H
def spPair : Sp := fun vs H Q _ => ∃ (b : Addr) (v : V), vs = [v] ∧ Thg b H v ∧ Q (.bl (pairB H v)) H
def spMemb : Sp := fun vs H Q _ => ∃ (b : Addr) (v : V), vs = [v] ∧ Thg b H v ∧ ∀ H', Same H H' → Q (.bl (memB H v)) H'
def spAsc : Sp := fun vs H Q _ => ∃ (a : Addr) (xs : List V), vs = [.ref a] ∧ (H a = some (.lst xs) ∨ H a = some (.tup xs)) ∧ xs.length ≤ 5000 ∧
  ((∃ ns : List Int, xs = ns.map V.int ∧ ∀ H', Same H H' → Q (.bl (ascBy ltI ns)) H') ∨
   ∃ (as : List Addr) (ps : List (List Int)), xs = as.map .ref ∧ Paired (fun a p => H a = some (.tup (p.map V.int))) as ps ∧ ∀ H', Same H H' → Q (.bl (ascBy HT.lexLt ps)) H')
def rLtIT (K : PySem.W.Frag) : R2 := fun x y H Q => rI0 (fun i j => .bl (decide (i < j))) x y H Q ∨ rLtT K x y H Q
theorem op_ltIT {X : Cx} (hu : X.A.units < cLine) : OpR X (compareOp .Lt) (rLtIT X.K) := by
  intro pins s σ H x y v u Q I rx ry h
  rcases h with h | h
  · exact op_lt pins s σ H x y v u Q I rx ry h
  · exact op_ltT hu pins s σ H x y v u Q I rx ry h
theorem num_cases {H : Hp} {v : V} {t : String} (h : ThT H v t) : (∃ i, v = .int i ∧ t = "int") ∨ (∃ c, v = .bl c ∧ t = "bool") ∨ (numV v = false ∧ instT t "int" = false) := by
  cases h with
  | int i => exact .inl ⟨i, rfl, rfl⟩
  | bl c => exact .inr (.inl ⟨c, rfl, rfl⟩)
  | _ => exact .inr (.inr ⟨rfl, by decide⟩)
section
variable {P : Program} {w : World} {K : PySem.W.Frag} {mg : Str → Option Value} {base : Heap}
theorem scNumb : FnScope ["thing"] ["thing"] (defScope sNumb) := ⟨rfl, rfl, rfl, by decide +kernel, rfl, by decide +kernel, by decide +kernel⟩
theorem ok_numb {f : Addr} {fd : FuncData} {k : Nat} (F : Fun K "is_number" "is_number" sNumb f fd) (T : Tx mg) : FnOk P w K mg base CX0 (k + 1) f fd ["thing"] spNumb := by
  refine F.ok scNumb (fun vs H Q E h => ?_) (fun cdv A outer s H vs Q E hr h => ?_)
  · obtain ⟨b, v, rfl, _⟩ := h
    rfl
  · obtain ⟨b, v, rfl, hv, q⟩ := h
    obtain ⟨t, ht⟩ := hv.th
    refine ⟨_, (pss_one (ps_ret (pe_and (pe_callB call_isTh (by rfl) T.isi (by decide +kernel) (pa_cons (pv 0) (pa_cons (pe_bltn (v := .ty "int") (u := .type "int") (by rfl) T.int_ (by decide +kernel) rfl) pa_nil))) (pe_and (pe_not (pe_callB call_isTh (by rfl) T.isi (by decide +kernel) (pa_cons (pv 0) (pa_cons (pe_bltn (v := .ty "bool") (u := .type "bool") (by rfl) T.bool_ (by decide +kernel) rfl) pa_nil)))) (pe_one (pe_cmpR op_ge (pv 0) pe_int (nomark _))))))), ?_⟩
    refine ⟨_, rfl, _, "int", t, rfl, ht, by decide, _, rfl, ?_⟩
    rcases num_cases ht with ⟨i, rfl, rfl⟩ | ⟨c, rfl, rfl⟩ | ⟨e1, e2⟩
    · exact iteT ⟨_, rfl, _, "bool", _, rfl, .int i, by decide, _, rfl, _, rfl, iteT ⟨_, rfl, _, _, rfl, rfl, q⟩⟩
    · exact iteT ⟨_, rfl, _, "bool", _, rfl, .bl c, by decide, _, rfl, _, rfl, iteF q⟩
    · rw [e2]
      rw [e1] at q
      exact iteF q
theorem scPair : FnScope ["thing"] ["thing"] (defScope sPair) := ⟨rfl, rfl, rfl, by decide +kernel, rfl, by decide +kernel, by decide +kernel⟩
theorem ok_pair {f : Addr} {fd : FuncData} {k : Nat} (F : Fun K "is_pair" "is_pair" sPair f fd) (T : Tx mg) : FnOk P w K mg base CX0 (k + 1) f fd ["thing"] spPair := by
  refine F.ok scPair (fun vs H Q E h => ?_) (fun cdv A outer s H vs Q E hr h => ?_)
  · obtain ⟨b, v, rfl, _⟩ := h
    rfl
  · obtain ⟨b, v, rfl, hv, q⟩ := h
    obtain ⟨t, ht⟩ := hv.th
    refine ⟨_, (pss_one (ps_ret (pe_and (pe_callB call_isTh (by rfl) T.isi (by decide +kernel) (pa_cons (pv 0) (pa_cons (pe_bltn (v := .ty "tuple") (u := .type "tuple") (by rfl) T.tuple_ (by decide +kernel) rfl) pa_nil))) (pe_one (pe_cmpR op_eq (pe_callB call_len_seq (by rfl) T.len_ PySem.boot_len (pa_cons (pv 0) pa_nil)) pe_int (nomark _)))))), ?_⟩
    refine ⟨_, rfl, _, "tuple", t, rfl, ht, by decide, _, rfl, ?_⟩
    rcases tup_cases ht with ⟨a, xs, rfl, hx, e, rfl⟩ | ⟨e1, e2⟩
    · refine iteT ⟨_, rfl, a, xs, rfl, .inr (.of hx), rfl, ?_⟩
      rw [pairB_at e] at q
      exact q
    · rw [e2]
      rw [pairB_no e1] at q
      exact iteF q
theorem scMemb : FnScope ["thing"] ["thing"] (defScope sMemb) := ⟨rfl, rfl, rfl, by decide +kernel, rfl, by decide +kernel, by decide +kernel⟩
theorem ok_memb {f : Addr} {fd : FuncData} {k : Nat} (F : Fun K "is_member" "is_member" sMemb f fd) (T : Tx mg) (cP : Cal P w K mg base (k + 1) "is_pair" ["thing"] spPair) (cW : Cal P w K mg base (k + 1) "is_word" ["thing"] spWord) (cN : Cal P w K mg base (k + 1) "is_number" ["thing"] spNumb) : FnOk P w K mg base CX0 (k + 2) f fd ["thing"] spMemb := by
  refine F.ok scMemb (fun vs H Q E h => ?_) (fun cdv A outer s H vs Q E hr h => ?_)
  · obtain ⟨b, v, rfl, _⟩ := h
    rfl
  · obtain ⟨b, v, rfl, hv, q⟩ := h
    refine ⟨_, (pss_one (ps_ret (pe_and (pe_c cP hr (by omega) (by rfl) (pa_cons (pv 0) pa_nil)) (pe_and (pe_c cW hr (by omega) (by rfl) (pa_cons (pe_ix ix_tup (pv 0) pe_int (fun _ _ => rfl)) pa_nil)) (pe_one (pe_c cN hr (by omega) (by rfl) (pa_cons (pe_ix ix_tup (pv 0) pe_int (fun _ _ => rfl)) pa_nil))))))), ?_⟩
    refine ⟨_, rfl, b, v, rfl, hv, _, rfl, ?_⟩
    cases hp : pairB H v with
    | false =>
      rw [memB_no hp] at q
      exact iteF (q _ (Same.refl _))
    | true =>
      obtain ⟨a, x, y, rfl, ha, e, tx, ty⟩ := pair_of hv hp
      rw [memB_at e] at q
      refine iteT ⟨_, rfl, a, _, _, x, rfl, rfl, .of ha, atI_nat (j := 0) rfl, b, x, rfl, tx, fun H1 s1 => ⟨_, rfl, ?_⟩⟩
      cases hw : wordV x with
      | false =>
        rw [hw] at q
        exact iteF (q _ s1)
      | true =>
        rw [hw] at q
        exact iteT ⟨_, rfl, a, _, _, y, rfl, rfl, .of (s1 _ _ ha), atI_nat (j := 1) rfl, b, y, rfl, ty.same s1, q _ s1⟩
theorem scAsc : FnScope ["things", "at"] ["things"] (defScope sAsc) := ⟨rfl, rfl, rfl, by decide +kernel, rfl, by decide +kernel, by decide +kernel⟩
theorem ok_asc {f : Addr} {fd : FuncData} {k : Nat} (F : Fun K "ascends" "ascends" sAsc f fd) (T : Tx mg) : FnOk P w K mg base CX0 (k + 1) f fd ["things"] spAsc := by
  refine F.ok scAsc (fun vs H Q E h => ?_) (fun cdv A outer s H vs Q E hr h => ?_)
  · obtain ⟨a, xs, rfl, _⟩ := h
    rfl
  · refine ⟨_, (pss_one (ps_ret (pe_callB (cr_all rfl) (by rfl) T.all_ (by decide +kernel) (pa_cons (pe_lc (own := [("at", 1)]) (g := gName 1) (te := tOp (rLtIT K) (tOp (rIx K) (tVar 0) (tVar 1)) (tOp (rIx K) (tVar 0) (tOp (rI0 fun i j => .int (i + j)) (tVar 1) (tC (.int 1))))) rfl scAsc.nd (pi_range1 (by rfl) T.range_ (pa_cons (pe_op op_sub (pe_callB call_len_seq (by rfl) T.len_ PySem.boot_len (pa_cons (pv 0) pa_nil)) pe_int) pa_nil)) (blkOk_by (N := ["things", "at"]) (sc := defScope sAsc) (by decide +kernel)) (fun _ _ _ _ _ => pg_name (i := 1) scAsc.nd rfl (Or.inl rfl)) (fun _ _ _ _ _ => pts_nil) (fun _ _ _ _ _ => (pe_cmpR (op_ltIT (lt_un hr)) (pe_ix ix_seq (pv 0) (pv 1) (fun _ _ => rfl)) (pe_ix ix_seq (pv 0) (pe_op op_add (pv 1) pe_int) (fun _ _ => rfl)) (nomark _)))) pa_nil)))), ?_⟩
    obtain ⟨a, xs, rfl, ha, hl, h⟩ := h
    have ix : ∀ {G : Hp} {j : Int} {v : V} {Q : VK}, Same H G → atI xs j = some v → Q v G → rIx K (.ref a) (.int j) G Q := fun {G j v Q} sm e q => by
      rcases ha with ha | ha
      · exact .inl ⟨a, xs, j, v, rfl, rfl, .of (sm _ _ ha), e, q⟩
      · exact .inr (.inl ⟨a, xs, j, v, rfl, rfl, .of (sm _ _ ha), e, q⟩)
    have sq : SqL K H a xs ∨ SqT K H a xs := ha.elim (fun h => .inl (.of h)) fun h => .inr (.of h)
    refine ⟨_, rfl, a, _, rfl, sq, _, _, rfl, rfl, ?_⟩
    refine ⟨_, rfl, by omega, by omega, fun D hD => ?_⟩
    have hn : ((xs.length : Nat) - 1 : Int).toNat = xs.length - 1 := by omega
    rw [hn]
    rcases h with ⟨ns, rfl, q⟩ | ⟨as, ps, rfl, hp, q⟩
    · rw [List.length_map] at *
      refine lcP (walk_range (lo := 0)) (fun i => V.bl (ltI (ns.getD i 0) (ns.getD (i + 1) 0))) (Nat.lt_of_le_of_lt (show ns.length - 1 ≤ 5000 by omega) (by decide)) hD (fun _ _ => trivial) ?_ ?_
      · rintro i y H3 H4 Q' hi sm ⟨rfl, rfl⟩ hq
        have e1 : ns[i]? = some ns[i] := List.getElem?_eq_getElem (by omega)
        have e2 : ns[i + 1]? = some ns[i + 1] := List.getElem?_eq_getElem (by omega)
        refine ⟨rfl, _, rfl, _, rfl, ix sm (v := .int ns[i]) (by rw [Int.zero_add]; exact atI_nat (by rw [List.getElem?_map, e1]; rfl)) ?_⟩
        refine ⟨_, rfl, _, rfl, _, _, rfl, rfl, ix sm (v := .int ns[i + 1]) (by rw [Int.zero_add]; exact atI_nat (j := i + 1) (by rw [List.getElem?_map, e2]; rfl)) (.inl ⟨_, _, rfl, rfl, ?_⟩)⟩
        have z1 : ns.getD i 0 = ns[i] := by rw [List.getD_eq_getElem?_getD, e1]; rfl
        have z2 : ns.getD (i + 1) 0 = ns[i + 1] := by rw [List.getD_eq_getElem?_getD, e2]; rfl
        rw [z1, z2] at hq
        exact hq _ (Same.refl _)
      · intro H' sm hd
        refine ⟨D, (List.range (ns.length - 1)).map fun i => ltI (ns.getD i 0) (ns.getD (i + 1) 0), rfl, .inl (.inl (by rw [hd, List.map_map]; rfl)), ?_⟩
        rw [ascBy_all]
        exact q _ sm
    · have le := Paired.len hp
      rw [List.length_map] at hl
      have hl2 : ps.length ≤ 5000 := by omega
      rw [List.length_map, le]
      refine lcP (walk_range (lo := 0)) (fun i => V.bl (HT.lexLt (ps.getD i []) (ps.getD (i + 1) []))) (Nat.lt_of_le_of_lt (show ps.length - 1 ≤ 5000 by omega) (by decide)) hD (fun _ _ => trivial) ?_ ?_
      · rintro i y H3 H4 Q' hi sm ⟨rfl, rfl⟩ hq
        have e1 : as[i]? = some (as[i]'(by omega)) := List.getElem?_eq_getElem (by omega)
        have e2 : as[i + 1]? = some (as[i + 1]'(by omega)) := List.getElem?_eq_getElem (by omega)
        obtain ⟨f1, g1, r1⟩ := Paired.at' hp e1
        obtain ⟨f2, g2, r2⟩ := Paired.at' hp e2
        refine ⟨rfl, _, rfl, _, rfl, ix sm (v := .ref (as[i]'(by omega))) (by rw [Int.zero_add]; exact atI_nat (by rw [List.getElem?_map, e1]; rfl)) ?_⟩
        refine ⟨_, rfl, _, rfl, _, _, rfl, rfl, ix sm (v := .ref (as[i + 1]'(by omega))) (by rw [Int.zero_add]; exact atI_nat (j := i + 1) (by rw [List.getElem?_map, e2]; rfl)) (.inr ⟨_, _, f1, f2, rfl, rfl, .of (sm _ _ r1), .of (sm _ _ r2), ?_⟩)⟩
        have z1 : ps.getD i [] = f1 := by rw [List.getD_eq_getElem?_getD, g1]; rfl
        have z2 : ps.getD (i + 1) [] = f2 := by rw [List.getD_eq_getElem?_getD, g2]; rfl
        rw [z1, z2] at hq
        exact hq _ (Same.refl _)
      · intro H' sm hd
        refine ⟨D, (List.range (ps.length - 1)).map fun i => HT.lexLt (ps.getD i []) (ps.getD (i + 1) []), rfl, .inl (.inl (by rw [hd, List.map_map]; rfl)), ?_⟩
        rw [ascBy_all]
        exact q _ sm
end
end L2.My
end
section
set_option Elab.async false
set_option linter.all false
set_option maxRecDepth 100000
set_option maxHeartbeats 4000000
/-! is_leaves, is_node. -/
namespace L2.My
open PySem PySem.Spec PyProof.Rows
abbrev sLeav : Stmt := top 33
abbrev sNode : Stmt := top 34
abbrev rNotN : R2 := fun x y H Q => y = .non ∧ Q (.bl (!decide (x = .non))) H
abbrev rLenS (K : PySem.W.Frag) : List V → Hp → VK → Prop := fun xs H Q => ∃ p ys, xs = [V.ref p] ∧ (SqL K H p ys ∨ SqT K H p ys) ∧ Q (V.int ys.length) H
section
variable {J : It} {n : Nat} {G : Hp → Prop} {Y : Nat → Hp → V → Hp → Prop}
theorem dcK_it (w : Walk J n G Y) {g : TG} {tt : TT} {tk tv : TE} {vs : List Nat} {σ : St} {H1 : Hp} {D : Addr} {Qd : Hp → Prop} (Pv : Nat → Hp → Prop) (h0 : Pv 0 (upd H1 D (.dK []))) (hG : ∀ i H, i ≤ n → Pv i H → G H)
    (hs : ∀ i x H H', i < n → Pv i H → Y i H x H' → g x (wipe σ vs) H' fun σ2 H2 => wipe σ2 vs = wipe σ vs ∧ tt σ2 H2 fun b H3 =>
      if b = true then tk σ2 H3 fun y H4 => tv σ2 H4 fun z H5 => ∃ kvs k, y = kV k ∧ H5 D = some (.dK kvs) ∧ kvs.length < sizeLine ∧ Pv (i + 1) (upd H5 D (.dK (putK kvs k z))) else Pv (i + 1) H3)
    (hd : ∀ H, Pv n H → Qd H) : ∃ W : Nat → Nat → Hp → Prop, (∃ m, W 0 m (upd H1 D (.dK []))) ∧ ∀ i m H, W i m H →
      (J.stop i H ∧ Qd H) ∨ (J.go i H ∧ ∃ Nx : Hp → Prop, (∀ H', Nx H' → ∃ m', m' < m ∧ W (i + 1) m' H') ∧ ∀ x H', J.yld i H x H' → g x (wipe σ vs) H' fun σ2 H2 => wipe σ2 vs = wipe σ vs ∧ tt σ2 H2 fun b H3 =>
        if b = true then tk σ2 H3 fun y H4 => tv σ2 H4 fun z H5 => ∃ kvs k, y = kV k ∧ H5 D = some (.dK kvs) ∧ kvs.length < sizeLine ∧ Nx (upd H5 D (.dK (putK kvs k z))) else Nx H3) := by
  refine ⟨fun i m H => i + m = n ∧ Pv i H, ⟨n, by omega, h0⟩, fun i m H ⟨e, h⟩ => ?_⟩
  have gi := hG i H (by omega) h
  by_cases hi : i < n
  · exact .inr ⟨w.goes i H hi gi, fun H' => Pv (i + 1) H', fun H' h' => ⟨m - 1, by omega, by omega, h'⟩, fun x H' y => hs i x H H' hi h (w.yields i H x H' hi gi y)⟩
  · obtain rfl : i = n := by omega
    exact .inl ⟨w.stops H gi, hd H h⟩
end
open Classical in
theorem keys_put {kvs : List (Key × V)} {k : Key} {v : V} : (putK kvs k v).map (·.1) = if k ∈ kvs.map (·.1) then kvs.map (·.1) else kvs.map (·.1) ++ [k] := by
  unfold putK
  by_cases h : k ∈ kvs.map (·.1)
  · rw [if_pos h]
    have e : (kvs.any fun kv => decide (kv.1 = k)) = true := by
      obtain ⟨p, hp, rfl⟩ := List.mem_map.mp h
      exact List.any_eq_true.mpr ⟨p, hp, decide_eq_true rfl⟩
    rw [if_pos e, List.map_map]
    apply List.map_congr_left
    intro p _
    show (if p.1 = k then (p.1, v) else p).1 = p.1
    split <;> rfl
  · rw [if_neg h]
    have e : ¬ (kvs.any fun kv => decide (kv.1 = k)) = true := fun z => by
      obtain ⟨p, hp, e⟩ := List.any_eq_true.mp z
      exact h (List.mem_map.mpr ⟨p, hp, of_decide_eq_true e⟩)
    rw [if_neg e, List.map_append]
    rfl
theorem nonN (v : V) : (!decide (v = V.non)) = notNon v := by cases v <;> simp [notNon]
theorem mem_name {H : Hp} {v : V} (h : memB H v = true) : ∃ y, tupOf H v = some [.str (nameV H v), y] := by
  unfold memB at h
  cases e : tupOf H v with
  | none => rw [e] at h; cases h
  | some xs =>
    rw [e] at h
    match xs, h with
    | [], h => cases h
    | [_], h => cases h
    | _ :: _ :: _ :: _, h => cases h
    | [x, y], h =>
      cases x with
      | str z =>
        refine ⟨y, ?_⟩
        have en : nameV H v = z := by unfold nameV; rw [e]
        rw [en]
      | _ =>
        have h' : (wordV _ && numV y) = true := h
        rw [show wordV _ = false from rfl] at h'
        cases h'
theorem leavesB_no {H : Hp} {h : Nat} {v : V} (e : tupOf H v = none) : leavesB H h v = false := by unfold leavesB; rw [e]
theorem leavesB_at {H : Hp} {h : Nat} {v : V} {xs : List V} (e : tupOf H v = some xs) : leavesB H h v = (decide (xs.length = 2 ^ h) && ((xs.filter notNon).all (memB H) && decide (((xs.filter notNon).map (nameV H)).Nodup))) := by unfold leavesB; rw [e]
def spLeav : Sp := fun vs H Q _ => ∃ (b : Addr) (h : Nat) (v : V), vs = [.int (h : Int), v] ∧ h ≤ 8 ∧ Thg b H v ∧ ∀ H', Same H H' → Q (.bl (leavesB H h v)) H'
def spNode : Sp := fun vs H Q _ => ∃ (b : Addr) (h : Nat) (v : V), vs = [.int (h : Int), v] ∧ h ≤ 8 ∧ Thg b H v ∧ Q (.bl (nodeB H h v)) H
theorem filt_snoc {α : Type} (p : α → Bool) {xs : List α} {i : Nat} {x : α} (h : xs[i]? = some x) : (xs.take (i + 1)).filter p = (xs.take i).filter p ++ if p x = true then [x] else [] := by
  rw [take_snoc h, List.filter_append, List.filter_cons, List.filter_nil]
theorem nodup_snoc {α : Type} {l : List α} {z : α} : (l ++ [z]).Nodup ↔ l.Nodup ∧ z ∉ l := by
  rw [List.nodup_append]
  constructor
  · rintro ⟨h1, _, h3⟩
    exact ⟨h1, fun h => h3 z h z List.mem_cons_self rfl⟩
  · rintro ⟨h1, h2⟩
    exact ⟨h1, by simp, fun a ha b hb e => h2 (by rw [List.mem_singleton] at hb; rw [← hb, ← e]; exact ha)⟩
section
variable {P : Program} {w : World} {K : PySem.W.Frag} {mg : Str → Option Value} {base : Heap}
theorem scLeav : FnScope ["height", "thing", "having", "leaf"] ["height", "thing"] (defScope sLeav) := ⟨rfl, rfl, rfl, by decide +kernel, rfl, by decide +kernel, by decide +kernel⟩
theorem ok_leav {f : Addr} {fd : FuncData} {k : Nat} (F : Fun K "is_leaves" "is_leaves" sLeav f fd) (T : Tx mg) (cM : Cal P w K mg base (k + 2) "is_member" ["thing"] spMemb) : FnOk P w K mg base CX0 (k + 3) f fd ["height", "thing"] spLeav := by
  refine F.ok scLeav (fun vs H Q E h => ?_) (fun cdv A outer s H vs Q E hr h => ?_)
  · obtain ⟨b, h, v, rfl, _⟩ := h
    rfl
  · obtain ⟨b, h, v, rfl, hh, hv, q⟩ := h
    obtain ⟨t, ht⟩ := hv.th
    refine ⟨_, (pss_cons (ps_if (pt_or (pt_not (pt_val (pe_callB call_isTh (by rfl) T.isi (by decide +kernel) (pa_cons (pv 1) (pa_cons (pe_bltn (v := .ty "tuple") (u := .type "tuple") (by rfl) T.tuple_ (by decide +kernel) rfl) pa_nil))))) (pw_or1 (pt_cmpR op_ne (pe_callB call_len_seq (by rfl) T.len_ PySem.boot_len (pa_cons (pv 1) pa_nil)) (pe_op op_shl pe_int (pv 0)) (nomark _)))) (pss_one (ps_ret pe_bl)) pss_nil) (pss_cons (ps_setLc (own := [("leaf", 3)]) (i := 2) (g := gName 3) (te := tVar 3) (tt := tTest (tOp rNotN (tVar 3) (tC .non))) rfl scLeav.nd rfl rfl (sw_true rfl rfl rfl (by decide +kernel)) (pi_tup (pv 1)) (blkOk_by (N := ["height", "thing", "having", "leaf"]) (sc := defScope sLeav) (by decide +kernel)) (fun _ _ _ _ _ => pg_name (i := 3) scLeav.nd rfl (Or.inl rfl)) (fun _ _ _ _ _ => (pts_one (pt_cmpR op_notN (pv 3) pe_non (nomark _)))) (fun _ _ _ _ _ => (pv 3))) (pss_one (ps_ret (pe_and (pe_callB (cr_all rfl) (by rfl) T.all_ (by decide +kernel) (pa_cons (pe_lc (own := [("leaf", 3)]) (g := gName 3) (te := tCall spMemb [] E0 (tCons (tVar 3) tNil)) rfl scLeav.nd (pi_list (pv 2)) (blkOk_by (N := ["height", "thing", "having", "leaf"]) (sc := defScope sLeav) (by decide +kernel)) (fun _ _ _ _ _ => pg_name (i := 3) scLeav.nd rfl (Or.inl rfl)) (fun _ _ _ _ _ => pts_nil) (fun _ _ _ _ _ => (pe_c cM hr (by omega) (by rfl) (pa_cons (pv 3) pa_nil)))) pa_nil)) (pe_one (pe_cmpR op_eq (pe_callB call_lenD (by rfl) T.len_ PySem.boot_len (pa_cons (pe_dc (own := [("leaf", 3)]) (g := gName 3) (tk := tOp (rIxT K) (tVar 3) (tC (.int 0))) (tv := tC (.bl true)) rfl scLeav.nd (pi_list (pv 2)) (blkOk_by (N := ["height", "thing", "having", "leaf"]) (sc := defScope sLeav) (by decide +kernel)) (fun _ _ _ _ _ => (pg_name (i := 3) scLeav.nd rfl (Or.inl rfl))) (fun _ _ _ _ _ => pts_nil) (fun _ _ _ _ _ => (pe_ix ix_tup (pv 3) pe_int (fun _ _ => rfl))) (fun _ _ _ _ _ => pe_bl)) pa_nil)) (pe_callB call_len_seq (by rfl) T.len_ PySem.boot_len (pa_cons (pv 2) pa_nil)) (nomark _)))))))), ?_⟩
    refine ⟨_, rfl, _, "tuple", t, rfl, ht, by decide, _, rfl, ?_⟩
    rcases tup_cases ht with ⟨a, xs, rfl, hx, e, rfl⟩ | ⟨e1, e2⟩
    rotate_left
    · rw [e2]
      rw [leavesB_no e1] at q
      exact iteT (q _ (Same.refl _))
    obtain ⟨hl, hxs⟩ := hv.sub hx
    rw [leavesB_at e] at q
    refine iteF ⟨_, rfl, a, xs, rfl, .inr (.of hx), _, rfl, _, _, rfl, rfl, ⟨by omega, by omega, by decide⟩, rfl, _, rfl, ?_⟩
    have e2 : (1 * 2 ^ (h : Int).toNat : Int) = ((2 ^ h : Nat) : Int) := by
      rw [Int.one_mul, Int.toNat_natCast]
      push_cast
      rfl
    have hd : decide (V.int (xs.length : Nat) = V.int (1 * 2 ^ (h : Int).toNat)) = decide (xs.length = 2 ^ h) := by
      rw [dec_int, e2, Bool.eq_iff_iff, beq_iff_eq, decide_eq_true_iff]
      omega
    dsimp only
    rw [hd]
    by_cases hlen : xs.length = 2 ^ h
    rotate_left
    · rw [decide_eq_false hlen, Bool.false_and] at q
      rw [decide_eq_false hlen]
      exact iteT (q _ (Same.refl _))
    rw [decide_eq_true hlen, Bool.true_and] at q
    rw [decide_eq_true hlen]
    refine iteF ?_
    refine ⟨_, rfl, a, rfl, ⟨_, .of hx⟩, fun D nD => ?_⟩
    have hb8 : xs.length ≤ 256 := by
      rw [hlen]
      exact Nat.le_trans (Nat.pow_le_pow_right (by decide) hh) (by decide)
    refine lc_it (walk_tup (xs := xs)) (fun i G => Same H G ∧ G D = some (.lst ((xs.take i).filter notNon))) ⟨same_upd nD, by rw [upd_same]; rfl⟩ (fun i G _ hG => .of (hG.1 _ _ hx)) ?_ ?_
    · rintro i y G G' hi ⟨sm, hD⟩ ⟨rfl, hy⟩
      refine ⟨rfl, _, rfl, rfl, _, rfl, ?_⟩
      rw [nonN, filt_snoc notNon hy]
      cases hn : notNon y with
      | false => exact iteF ⟨sm, by rw [if_neg Bool.false_ne_true, List.append_nil]; exact hD⟩
      | true =>
        refine iteT ⟨_, rfl, _, hD, Nat.lt_of_le_of_lt (show ((xs.take i).filter notNon).length ≤ 300 from Nat.le_trans (List.length_filter_le _ _) (by rw [List.length_take]; omega)) (by decide), same_put sm nD, by rw [if_pos rfl]; exact upd_same⟩
    rintro G ⟨sm, hD⟩
    rw [List.take_length] at hD
    generalize hvs : xs.filter notNon = vs at *
    have hm : ∀ x ∈ vs, Thg b H x := fun x hx2 => hxs x (by rw [← hvs] at hx2; exact (List.mem_filter.mp hx2).1)
    have hvl : vs.length ≤ 256 := by rw [← hvs]; exact Nat.le_trans (List.length_filter_le _ _) hb8
    refine ⟨_, rfl, D, rfl, ⟨_, SqL.of hD⟩, fun D2 nD2 => ?_⟩
    refine lcP (walk_list (xs := vs)) (fun i => V.bl (memB H (vs.getD i .non))) (Nat.lt_of_le_of_lt hvl (by decide)) nD2 (fun _ s => SqL.of (s _ _ hD)) ?_ ?_
    · rintro i y G3 G4 Q' hi s3 ⟨rfl, hy⟩ hq
      have eg : vs.getD i .non = y := by rw [List.getD_eq_getElem?_getD, hy]; rfl
      rw [eg] at hq
      have ty := (hm y (List.mem_of_getElem? hy)).same (sm.trans s3)
      refine ⟨rfl, _, rfl, b, y, rfl, ty, fun G5 s5 => ?_⟩
      have em : memB G4 y = memB H y := by
        unfold memB
        rw [tupOf_bl (hm y (List.mem_of_getElem? hy)) (.same (sm.trans s3))]
      rw [em]
      exact hq _ s5
    intro G3 s3 hd3
    refine ⟨D2, (List.range vs.length).map fun i => memB H (vs.getD i .non), rfl, .inl (.inl (by rw [hd3, List.map_map]; rfl)), ?_⟩
    rw [range_all]
    have s03 := sm.trans s3
    have hD3 := s3 _ _ hD
    refine ⟨_, rfl, ?_⟩
    cases hall : vs.all (memB H) with
    | false =>
      rw [hall, Bool.false_and] at q
      exact iteF (q _ s03)
    | true =>
      rw [hall, Bool.true_and] at q
      refine iteT ⟨_, rfl, D, rfl, ⟨_, SqL.of hD3⟩, fun D4 nD4 => ?_⟩
      refine dcK_it (walk_list (xs := vs)) (fun i G4 => Same G3 G4 ∧ ∃ kvs : List (Key × V), G4 D4 = some (.dK kvs) ∧ (∀ z, .inr z ∈ kvs.map (·.1) ↔ z ∈ (vs.take i).map (nameV H)) ∧ kvs.length ≤ i ∧ (kvs.length = i ↔ ((vs.take i).map (nameV H)).Nodup)) ⟨same_upd nD4, [], upd_same, by simp, Nat.le_refl _, by simp⟩ (fun i G4 _ h4 => SqL.of (h4.1 _ _ hD3)) ?_ ?_
      · rintro i y G4 G5 hi ⟨s4, kvs, h1, h2, h3, h4⟩ ⟨rfl, hy⟩
        have my := List.mem_of_getElem? hy
        obtain ⟨u, eu⟩ := mem_name (List.all_eq_true.mp hall y my)
        obtain ⟨ay, rfl, hay, _, _⟩ := tupOf_sub (hm y my) eu
        have hay4 := s4 _ _ (s03 _ _ hay)
        refine ⟨rfl, _, rfl, ay, _, _, _, rfl, rfl, .of hay4, atI_nat (j := 0) rfl, kvs, .inr (nameV H (.ref ay)), rfl, h1, Nat.lt_of_le_of_lt (show kvs.length ≤ 256 by omega) (by decide), same_put s4 nD4, _, upd_same, fun z => ?_, ?_, ?_⟩
        · rw [keys_put, take_snoc hy, List.map_append, List.mem_append]
          split
          · rename_i hk
            rw [h2]
            constructor
            · exact .inl
            · rintro (c | c)
              · exact c
              · rw [List.map_cons, List.map_nil, List.mem_singleton] at c
                rw [c]
                exact (h2 _).mp hk
          · rw [List.mem_append, h2, List.mem_singleton, List.map_cons, List.map_nil, List.mem_singleton]
            constructor
            · rintro (c | c)
              · exact .inl c
              · exact .inr (Sum.inr.inj c)
            · rintro (c | c)
              · exact .inl c
              · exact .inr (by rw [c])
        · have := length_putK kvs (.inr (nameV H (.ref ay))) (.bl true)
          omega
        · have hlk : (putK kvs (.inr (nameV H (.ref ay))) (V.bl true)).length = ((putK kvs (.inr (nameV H (.ref ay))) (V.bl true)).map (·.1)).length := by rw [List.length_map]
          rw [hlk, keys_put, take_snoc hy, List.map_append, List.map_cons, List.map_nil, nodup_snoc, ← h4, ← h2]
          split
          · rename_i hk
            rw [List.length_map]
            constructor
            · intro c; omega
            · intro c; exact absurd hk c.2
          · rename_i hk
            rw [List.length_append, List.length_map, List.length_singleton]
            constructor
            · intro c; exact ⟨by omega, hk⟩
            · intro c; omega
      · rintro G4 ⟨s4, kvs, h1, h2, h3, h4⟩
        refine ⟨D4, kvs, rfl, h1, _, rfl, D, vs, rfl, .inl (.of (s4 _ _ hD3)), rfl, ?_⟩
        rw [List.take_length] at h4
        have ed : decide (V.int (kvs.length : Nat) = V.int (vs.length : Nat)) = decide ((vs.map (nameV H)).Nodup) := by
          rw [dec_int]
          by_cases c : (vs.map (nameV H)).Nodup
          · rw [decide_eq_true c, beq_iff_eq, h4.mpr c]
          · rw [decide_eq_false c, beq_eq_false_iff_ne]
            exact fun z => c (h4.mp (by omega))
        rw [ed]
        exact q _ (s03.trans s4)
theorem scNode : FnScope ["height", "thing"] ["height", "thing"] (defScope sNode) := ⟨rfl, rfl, rfl, by decide +kernel, rfl, by decide +kernel, by decide +kernel⟩
theorem ok_node {f : Addr} {fd : FuncData} {k : Nat} (F : Fun K "is_node" "is_node" sNode f fd) (T : Tx mg) (cP : Cal P w K mg base (k + 1) "is_pair" ["thing"] spPair) (cB : Cal P w K mg base (k + 1) "is_below" ["bound", "thing"] spBelow) : FnOk P w K mg base CX0 (k + 2) f fd ["height", "thing"] spNode := by
  refine F.ok scNode (fun vs H Q E h => ?_) (fun cdv A outer s H vs Q E hr h => ?_)
  · obtain ⟨b, h, v, rfl, _⟩ := h
    rfl
  · obtain ⟨b, h, v, rfl, hh, hv, q⟩ := h
    refine ⟨_, (pss_one (ps_ret (pe_and (pe_c cP hr (by omega) (by rfl) (pa_cons (pv 1) pa_nil)) (pe_and (pe_c cB hr (by omega) (by rfl) (pa_cons (pe_op op_add (pv 0) pe_int) (pa_cons (pe_ix ix_tup (pv 1) pe_int (fun _ _ => rfl)) pa_nil))) (pe_one (pe_c cB hr (by omega) (by rfl) (pa_cons (pe_op op_shl pe_int (pe_op op_sub (pv 0) (pe_ix ix_tup (pv 1) pe_int (fun _ _ => rfl)))) (pa_cons (pe_ix ix_tup (pv 1) pe_int (fun _ _ => rfl)) pa_nil)))))))), ?_⟩
    refine ⟨_, rfl, b, v, rfl, hv, _, rfl, ?_⟩
    cases hp : pairB H v with
    | false =>
      have e : nodeB H h v = false := by
        unfold pairB at hp
        unfold nodeB
        split <;> simp_all
      rw [e] at q
      exact iteF q
    | true =>
      obtain ⟨a, x, y, rfl, ha, e, tx, ty⟩ := pair_of hv hp
      have en : nodeB H h (.ref a) = (belowV ((h : Int) + 1) x && belowV ((2 : Int) ^ (h - iV x)) y) := by unfold nodeB; rw [e]
      rw [en] at q
      refine iteT ⟨_, rfl, _, _, rfl, rfl, _, rfl, a, _, _, x, rfl, rfl, .of ha, atI_nat (j := 0) rfl, b, _, x, rfl, tx, _, rfl, ?_⟩
      cases hx : belowV ((h : Int) + 1) x with
      | false =>
        rw [hx] at q
        exact iteF q
      | true =>
        rw [hx] at q
        cases x with
        | int i =>
          have hi := of_decide_eq_true (show decide (0 ≤ i ∧ i < (h : Int) + 1) = true from hx)
          refine iteT ⟨_, rfl, _, rfl, a, _, _, .int i, rfl, rfl, .of ha, atI_nat (j := 0) rfl, _, _, rfl, rfl, _, _, rfl, rfl, ⟨by omega, by omega, by decide⟩, _, rfl, a, _, _, y, rfl, rfl, .of ha, atI_nat (j := 1) rfl, b, _, y, rfl, ty, ?_⟩
          have e3 : (1 * 2 ^ ((h : Int) - i).toNat : Int) = (2 : Int) ^ (h - iV (.int i)) := by
            rw [Int.one_mul]
            congr 1
            show ((h : Int) - i).toNat = h - i.toNat
            omega
          rw [e3]
          exact q
        | _ => cases hx
end
end L2.My
end
section
set_option Elab.async false
set_option linter.all false
set_option maxRecDepth 100000
set_option maxHeartbeats 4000000
/-! is_kept_node, is_nodes. -/
namespace L2.My
open PySem PySem.Spec PyProof.Rows
abbrev sKept : Stmt := top 35
abbrev sNods : Stmt := top 36
abbrev rShr : R2 := rI (fun _ j => 0 ≤ j) fun i j => .int (i / 2 ^ j.toNat)
theorem keptB_no {H : Hp} {h : Nat} {ls : List V} {v : V} (e : tupOf H v = none) : keptB H h ls v = false := by unfold keptB; rw [e]
theorem keptB_len {H : Hp} {h : Nat} {ls : List V} {v : V} {xs : List V} (e : tupOf H v = some xs) (n : xs.length ≠ 3) : keptB H h ls v = false := by
  unfold keptB
  rw [e]
  match xs, n with
  | [], _ => rfl
  | [_], _ => rfl
  | [_, _], _ => rfl
  | [_, _, _], n => exact absurd rfl n
  | _ :: _ :: _ :: _ :: _, _ => rfl
theorem keptB_at {H : Hp} {h : Nat} {ls : List V} {v n l a : V} (e : tupOf H v = some [n, l, a]) : keptB H h ls v = (nodeB H h n && (decide (levV H n ≠ 0) && (numV l && asideB H ls (levV H n) (atV H n) a))) := by unfold keptB; rw [e]
theorem asideB_no {H : Hp} {ls : List V} {p q : Nat} {v : V} (e : tupOf H v = none) : asideB H ls p q v = false := by unfold asideB; rw [e]
theorem asideB_at {H : Hp} {ls : List V} {p q : Nat} {v : V} {xs : List V} (e : tupOf H v = some xs) : asideB H ls p q v = (xs.all (belowV (ls.length : Int)) && (ascBy ltI (xs.map intV) && xs.all fun x => decide (iV x / 2 ^ p = q) && notNon (ls.getD (iV x) .non))) := by unfold asideB; rw [e]
theorem below_int {n : Int} {v : V} (h : belowV n v = true) : v = .int (iV v : Nat) ∧ ((iV v : Nat) : Int) < n ∧ intV v = (iV v : Nat) := by
  cases v with
  | int i =>
    have hi := of_decide_eq_true (show decide (0 ≤ i ∧ i < n) = true from h)
    have e : ((iV (.int i) : Nat) : Int) = i := by
      show ((i.toNat : Nat) : Int) = i
      omega
    rw [e]
    exact ⟨rfl, hi.2, rfl⟩
  | _ => cases h
theorem ints_all {n : Int} : ∀ {xs : List V}, xs.all (belowV n) = true → xs = (xs.map intV).map V.int
  | [], _ => rfl
  | x :: r, h => by
    rw [List.all_cons, Bool.and_eq_true] at h
    obtain ⟨h1, _, h3⟩ := below_int h.1
    rw [List.map_cons, List.map_cons, ← ints_all h.2, h3, ← h1]
/-- what passed is_node -/
theorem node_of {b : Addr} {H : Hp} {h : Nat} {v : V} (t : Thg b H v) (e : nodeB H h v = true) : ∃ a, v = .ref a ∧ H a = some (.tup [.int (levV H v : Nat), .int (atV H v : Nat)]) ∧ tupOf H v = some [.int (levV H v : Nat), .int (atV H v : Nat)] ∧ levV H v ≤ h ∧ ((atV H v : Nat) : Int) < (2 : Int) ^ (h - levV H v) ∧ nodI H v = [((levV H v : Nat) : Int), ((atV H v : Nat) : Int)] := by
  have hp : pairB H v = true := by
    unfold nodeB at e
    unfold pairB
    split at e
    · rfl
    · cases e
  obtain ⟨a, x, y, rfl, ha, ep, tx, ty⟩ := pair_of t hp
  have en : nodeB H h (.ref a) = (belowV ((h : Int) + 1) x && belowV ((2 : Int) ^ (h - iV x)) y) := by unfold nodeB; rw [ep]
  have e1 : levV H (.ref a) = iV x := by unfold levV; rw [ep]
  have e2 : atV H (.ref a) = iV y := by unfold atV; rw [ep]
  have e3 : nodI H (.ref a) = [intV x, intV y] := by unfold nodI; rw [ep]; rfl
  rw [en, Bool.and_eq_true] at e
  obtain ⟨a1, a2, a3⟩ := below_int e.1
  obtain ⟨b1, b2, b3⟩ := below_int e.2
  rw [e1, e2, e3, a3, b3, ← a1, ← b1]
  exact ⟨a, rfl, ha, ep, by omega, b2, rfl⟩
def spKept : Sp := fun vs H Q _ => ∃ (b : Addr) (h : Nat) (la : Addr) (ls : List V) (v : V), vs = [.int (h : Int), .ref la, v] ∧ h ≤ 8 ∧ H la = some (.tup ls) ∧ Thg b H v ∧ ∀ H', Same H H' → Q (.bl (keptB H h ls v)) H'
def spNods : Sp := fun vs H Q _ => ∃ (b : Addr) (h : Nat) (la : Addr) (ls : List V) (v : V), vs = [.int (h : Int), .ref la, v] ∧ h ≤ 8 ∧ H la = some (.tup ls) ∧ Thg b H v ∧ ∀ H', Same H H' → Q (.bl (nodesB H h ls v)) H'
section
variable {P : Program} {w : World} {K : PySem.W.Frag} {mg : Str → Option Value} {base : Heap}
abbrev nKp : List Str := ["height", "leaves", "thing", "node", "lock", "aside", "leaf"]
theorem scKp : FnScope nKp ["height", "leaves", "thing"] (defScope sKept) := ⟨rfl, rfl, rfl, by decide +kernel, rfl, by decide +kernel, by decide +kernel⟩
theorem ok_kept {f : Addr} {fd : FuncData} {k : Nat} (F : Fun K "is_kept_node" "is_kept_node" sKept f fd) (T : Tx mg) (cN : Cal P w K mg base (k + 2) "is_node" ["height", "thing"] spNode) (cU : Cal P w K mg base (k + 2) "is_number" ["thing"] spNumb) (cB : Cal P w K mg base (k + 2) "is_below" ["bound", "thing"] spBelow) (cA : Cal P w K mg base (k + 2) "ascends" ["things"] spAsc) : FnOk P w K mg base CX0 (k + 3) f fd ["height", "leaves", "thing"] spKept := by
  refine F.ok scKp (fun vs H Q E h => ?_) (fun cdv A outer s H vs Q E hr h => ?_)
  · obtain ⟨b, h, la, ls, v, rfl, _⟩ := h
    rfl
  · obtain ⟨b, h, la, ls, v, rfl, hh, hla, hv, q⟩ := h
    obtain ⟨t, ht⟩ := hv.th
    refine ⟨_, (pss_cons (ps_if (pt_or (pt_not (pt_val (pe_callB call_isTh (by rfl) T.isi (by decide +kernel) (pa_cons (pv 2) (pa_cons (pe_bltn (v := .ty "tuple") (u := .type "tuple") (by rfl) T.tuple_ (by decide +kernel) rfl) pa_nil))))) (pw_or1 (pt_cmpR op_ne (pe_callB call_len_seq (by rfl) T.len_ PySem.boot_len (pa_cons (pv 2) pa_nil)) pe_int (nomark _)))) (pss_one (ps_ret pe_bl)) pss_nil) (pss_cons (ps_asg (pv 2) (pg_tup rfl (pgs_cons (pg_name (i := 3) scKp.nd rfl (Or.inr rfl)) (pgs_cons (pg_name (i := 4) scKp.nd rfl (Or.inl rfl)) (pgs_cons (pg_name (i := 5) scKp.nd rfl (Or.inl rfl)) pgs_nil))))) (pss_cons (ps_if (pt_or (pt_not (pt_val (pe_c cN hr (by omega) (by rfl) (pa_cons (pv 0) (pa_cons (pv 3) pa_nil))))) (pw_or (pt_cmpR op_eq (pe_ix ix_tup (pv 3) pe_int (fun _ _ => rfl)) pe_int (nomark _)) (pw_or (pt_not (pt_val (pe_c cU hr (by omega) (by rfl) (pa_cons (pv 4) pa_nil)))) (pw_or1 (pt_not (pt_val (pe_callB call_isTh (by rfl) T.isi (by decide +kernel) (pa_cons (pv 5) (pa_cons (pe_bltn (v := .ty "tuple") (u := .type "tuple") (by rfl) T.tuple_ (by decide +kernel) rfl) pa_nil))))))))) (pss_one (ps_ret pe_bl)) pss_nil) (pss_cons (ps_if (pt_or (pt_not (pt_val (pe_callB (cr_all rfl) (by rfl) T.all_ (by decide +kernel) (pa_cons (pe_lc (own := [("leaf", 6)]) (g := gName 6) (te := tCall spBelow [] E0 (tCons (tCB (rLenS K) (tCons (tVar 1) tNil)) (tCons (tVar 6) tNil))) rfl scKp.nd (pi_tup (pv 5)) (blkOk_by (N := nKp) (sc := defScope sKept) (by decide +kernel)) (fun _ _ _ _ _ => pg_name (i := 6) scKp.nd rfl (Or.inl rfl)) (fun _ _ _ _ _ => pts_nil) (fun _ _ _ _ _ => (pe_c cB hr (by omega) (by rfl) (pa_cons (pe_callB call_len_seq (by rfl) T.len_ PySem.boot_len (pa_cons (pv 1) pa_nil)) (pa_cons (pv 6) pa_nil))))) pa_nil)))) (pw_or1 (pt_not (pt_val (pe_c cA hr (by omega) (by rfl) (pa_cons (pv 5) pa_nil)))))) (pss_one (ps_ret pe_bl)) pss_nil) (pss_one (ps_ret (pe_callB (cr_all rfl) (by rfl) T.all_ (by decide +kernel) (pa_cons (pe_lc (own := [("leaf", 6)]) (g := gName 6) (te := tAndV (tOp rEq (tOp rShr (tVar 6) (tOp (rIxT K) (tVar 3) (tC (.int 0)))) (tOp (rIxT K) (tVar 3) (tC (.int 1)))) (tOp rNotN (tOp (rIxT K) (tVar 1) (tVar 6)) (tC .non))) rfl scKp.nd (pi_tup (pv 5)) (blkOk_by (N := nKp) (sc := defScope sKept) (by decide +kernel)) (fun _ _ _ _ _ => pg_name (i := 6) scKp.nd rfl (Or.inl rfl)) (fun _ _ _ _ _ => pts_nil) (fun _ _ _ _ _ => (pe_and (pe_cmpR op_eq (pe_op op_shr (pv 6) (pe_ix ix_tup (pv 3) pe_int (fun _ _ => rfl))) (pe_ix ix_tup (pv 3) pe_int (fun _ _ => rfl)) (nomark _)) (pe_one (pe_cmpR op_notN (pe_ix ix_tup (pv 1) (pv 6) (fun _ _ => rfl)) pe_non (nomark _)))))) pa_nil)))))))), ?_⟩
    refine ⟨_, rfl, _, "tuple", t, rfl, ht, by decide, _, rfl, ?_⟩
    rcases tup_cases ht with ⟨a, xs, rfl, hx, e, rfl⟩ | ⟨e1, e2⟩
    rotate_left
    · rw [e2]
      rw [keptB_no e1] at q
      exact iteT (q _ (Same.refl _))
    obtain ⟨hl, hxs⟩ := hv.sub hx
    refine iteF ⟨_, rfl, a, xs, rfl, .inr (.of hx), rfl, _, rfl, ?_⟩
    have hd : decide (V.int (xs.length : Nat) = V.int 3) = decide (xs.length = 3) := by
      rw [dec_int, Bool.eq_iff_iff, beq_iff_eq, decide_eq_true_iff]
      omega
    rw [hd]
    by_cases h3 : xs.length = 3
    rotate_left
    · rw [decide_eq_false h3]
      rw [keptB_len e h3] at q
      exact iteT (q _ (Same.refl _))
    rw [decide_eq_true h3]
    obtain ⟨n, l, c, rfl⟩ : ∃ n l c, xs = [n, l, c] := by
      match xs, h3 with
      | [n, l, c], _ => exact ⟨n, l, c, rfl⟩
    rw [keptB_at e] at q
    have tn := hxs n (by simp)
    have tl := hxs l (by simp)
    have tc := hxs c (by simp)
    refine iteF ⟨_, rfl, a, _, rfl, .of hx, rfl, _, _, rfl, _, _, rfl, _, _, rfl, rfl, ?_⟩
    refine ⟨_, rfl, _, rfl, b, h, n, rfl, hh, tn, _, rfl, ?_⟩
    cases hn : nodeB H h n with
    | false =>
      rw [hn] at q
      exact iteT (q _ (Same.refl _))
    | true =>
    rw [hn, Bool.true_and] at q
    obtain ⟨na, rfl, hna, ena, hlev, hat, _⟩ := node_of tn hn
    generalize levV H (.ref na) = lev at *
    generalize atV H (.ref na) = at' at *
    refine iteF ⟨_, rfl, na, _, _, .int (lev : Nat), rfl, rfl, .of hna, atI_nat (j := 0) rfl, rfl, _, rfl, ?_⟩
    have hd0 : decide (V.int (lev : Nat) = V.int 0) = !decide (lev ≠ 0) := by
      rw [dec_int]
      by_cases z : lev = 0
      · rw [z]; rfl
      · rw [decide_eq_true z, Bool.not_true, beq_eq_false_iff_ne]
        omega
    rw [hd0]
    cases hz : decide (lev ≠ 0) with
    | false =>
      rw [hz] at q
      exact iteT (q _ (Same.refl _))
    | true =>
    rw [hz, Bool.true_and] at q
    refine iteF ⟨_, rfl, b, l, rfl, tl, _, rfl, ?_⟩
    cases hu : numV l with
    | false =>
      rw [hu] at q
      exact iteT (q _ (Same.refl _))
    | true =>
    rw [hu, Bool.true_and] at q
    obtain ⟨t2, ht2⟩ := tc.th
    refine iteF ⟨_, rfl, _, "tuple", t2, rfl, ht2, by decide, _, rfl, ?_⟩
    rcases tup_cases ht2 with ⟨c, ys, rfl, hc, ec, rfl⟩ | ⟨e1, e2⟩
    rotate_left
    · rw [e2]
      rw [asideB_no e1] at q
      exact iteT (q _ (Same.refl _))
    rw [asideB_at ec] at q
    obtain ⟨hyl, hys⟩ := tc.sub hc
    refine iteF ⟨_, rfl, c, rfl, ⟨_, .of hc⟩, fun D nD => ?_⟩
    refine lcP walk_tup (fun i => V.bl (belowV (ls.length : Int) (ys.getD i .non))) (Nat.lt_of_le_of_lt hyl (by decide)) nD (fun _ sm => .of (sm _ _ hc)) ?_ ?_
    · rintro i y G3 G4 Q' hi sm ⟨rfl, hy⟩ hq
      have eg : ys.getD i .non = y := by rw [List.getD_eq_getElem?_getD, hy]; rfl
      rw [eg] at hq
      exact ⟨rfl, _, rfl, la, _, rfl, .inr (.of (sm _ _ hla)), _, rfl, b, _, y, rfl, (hys y (List.mem_of_getElem? hy)).same sm, hq _ (Same.refl _)⟩
    intro G sm hd1
    refine ⟨D, (List.range ys.length).map fun i => belowV (ls.length : Int) (ys.getD i .non), rfl, .inl (.inl (by rw [hd1, List.map_map]; rfl)), _, rfl, ?_⟩
    rw [range_all]
    cases hb : ys.all (belowV (ls.length : Int)) with
    | false =>
      rw [hb] at q
      exact iteT (q _ sm)
    | true =>
    rw [hb, Bool.true_and] at q
    have hcG := sm _ _ hc
    refine iteF ⟨_, rfl, c, ys, rfl, .inr hcG, hyl, .inl ⟨_, ints_all hb, fun G2 s2 => ⟨_, rfl, ?_⟩⟩⟩
    cases hasc : ascBy ltI (ys.map intV) with
    | false =>
      rw [hasc] at q
      exact iteT (q _ (sm.trans s2))
    | true =>
    rw [hasc, Bool.true_and] at q
    have s02 := sm.trans s2
    refine iteF ⟨_, rfl, c, rfl, ⟨_, .of (s02 _ _ hc)⟩, fun D2 nD2 => ?_⟩
    refine lcP walk_tup (fun i => V.bl ((fun x => decide (iV x / 2 ^ lev = at') && notNon (ls.getD (iV x) .non)) (ys.getD i .non))) (Nat.lt_of_le_of_lt hyl (by decide)) nD2 (fun _ s3 => .of (s3 _ _ (s02 _ _ hc))) ?_ ?_
    · rintro i y G3 G4 Q' hi s3 ⟨rfl, hy⟩ hq
      have eg : ys.getD i .non = y := by rw [List.getD_eq_getElem?_getD, hy]; rfl
      rw [eg] at hq
      have s03 := s02.trans s3
      obtain ⟨y1, y2, y3⟩ := below_int (List.all_eq_true.mp hb y (List.mem_of_getElem? hy))
      have hna3 := s03 _ _ hna
      have hq2 : ∀ H4, Same G4 H4 → Q' (V.bl (decide (iV y / 2 ^ lev = at') && notNon (ls.getD (iV y) .non))) H4 := hq
      clear hq
      generalize hj : iV y = j at *
      refine ⟨rfl, ?_⟩
      rw [y1]
      refine ⟨_, rfl, _, rfl, na, _, _, .int (lev : Nat), rfl, rfl, .of hna3, atI_nat (j := 0) rfl, _, _, rfl, rfl, by omega, _, rfl, na, _, _, .int (at' : Nat), rfl, rfl, .of hna3, atI_nat (j := 1) rfl, rfl, _, rfl, ?_⟩
      have e5 : decide (V.int (((j : Nat) : Int) / 2 ^ ((lev : Nat) : Int).toNat) = V.int (at' : Nat)) = decide (j / 2 ^ lev = at') := by
        have e6 : (((j : Nat) : Int) / 2 ^ ((lev : Nat) : Int).toNat) = ((j / 2 ^ lev : Nat) : Int) := by
          rw [Int.toNat_natCast]
          push_cast
          rfl
        rw [e6, dec_int, Bool.eq_iff_iff, beq_iff_eq, decide_eq_true_iff]
        omega
      rw [e5]
      cases h5 : decide (j / 2 ^ lev = at') with
      | false =>
        rw [h5] at hq2
        exact iteF (hq2 _ (Same.refl _))
      | true =>
        rw [h5, Bool.true_and] at hq2
        have hjl : j < ls.length := by omega
        have ej : ls[j]? = some ls[j] := List.getElem?_eq_getElem hjl
        have eg2 : ls.getD j .non = ls[j] := by rw [List.getD_eq_getElem?_getD, ej]; rfl
        rw [eg2] at hq2
        refine iteT ⟨_, rfl, _, rfl, la, _, _, ls[j], rfl, rfl, .of (s03 _ _ hla), atI_nat ej, rfl, ?_⟩
        rw [nonN]
        exact hq2 _ (Same.refl _)
    intro G3 s3 hd3
    refine ⟨D2, (List.range ys.length).map fun i => (fun x => decide (iV x / 2 ^ lev = at') && notNon (ls.getD (iV x) .non)) (ys.getD i .non), rfl, .inl (.inl (by rw [hd3, List.map_map]; rfl)), ?_⟩
    rw [range_all (fun x => decide (iV x / 2 ^ lev = at') && notNon (ls.getD (iV x) .non))]
    exact q _ (s02.trans s3)
theorem nodesB_no {H : Hp} {h : Nat} {ls : List V} {v : V} (e : tupOf H v = none) : nodesB H h ls v = false := by unfold nodesB; rw [e]
theorem nodesB_at {H : Hp} {h : Nat} {ls : List V} {v : V} {xs : List V} (e : tupOf H v = some xs) : nodesB H h ls v = (xs.all (keptB H h ls) && ascBy HT.lexLt (xs.map (rowI H))) := by unfold nodesB; rw [e]
theorem levV_bl {b : Addr} {H H' : Hp} {v : V} (t : Thg b H v) (s : BL [b] H H') : levV H' v = levV H v := by unfold levV; rw [tupOf_bl t s]
theorem atV_bl {b : Addr} {H H' : Hp} {v : V} (t : Thg b H v) (s : BL [b] H H') : atV H' v = atV H v := by unfold atV; rw [tupOf_bl t s]
theorem nodeB_bl {b : Addr} {H H' : Hp} {h : Nat} {v : V} (t : Thg b H v) (s : BL [b] H H') : nodeB H' h v = nodeB H h v := by unfold nodeB; rw [tupOf_bl t s]
theorem nodI_bl {b : Addr} {H H' : Hp} {v : V} (t : Thg b H v) (s : BL [b] H H') : nodI H' v = nodI H v := by unfold nodI; rw [tupOf_bl t s]
theorem asideB_bl {b : Addr} {H H' : Hp} {ls : List V} {p q : Nat} {v : V} (t : Thg b H v) (s : BL [b] H H') : asideB H' ls p q v = asideB H ls p q v := by unfold asideB; rw [tupOf_bl t s]
theorem keptB_bl {b : Addr} {H H' : Hp} {h : Nat} {ls : List V} {v : V} (t : Thg b H v) (s : BL [b] H H') : keptB H' h ls v = keptB H h ls v := by
  cases e : tupOf H v with
  | none => rw [keptB_no e, keptB_no ((tupOf_bl t s).trans e)]
  | some xs =>
    obtain ⟨a, _, _, _, q⟩ := tupOf_sub t e
    by_cases h3 : xs.length = 3
    · obtain ⟨n, l, c, rfl⟩ : ∃ n l c, xs = [n, l, c] := by
        match xs, h3 with
        | [n, l, c], _ => exact ⟨n, l, c, rfl⟩
      have tn := q n (by simp)
      rw [keptB_at e, keptB_at ((tupOf_bl t s).trans e), nodeB_bl tn s, levV_bl tn s, atV_bl tn s, asideB_bl (q c (by simp)) s]
    · rw [keptB_len e h3, keptB_len ((tupOf_bl t s).trans e) h3]
theorem rowI_bl {b : Addr} {H H' : Hp} {v : V} (t : Thg b H v) (s : BL [b] H H') : rowI H' v = rowI H v := by
  unfold rowI
  rw [tupOf_bl t s]
  cases e : tupOf H v with
  | none => rfl
  | some xs =>
    obtain ⟨a, _, _, _, q⟩ := tupOf_sub t e
    match xs, q with
    | [], _ => rfl
    | x :: r, q => exact nodI_bl (q x (by simp)) s
/-- a row that passed -/
theorem kept_of {b : Addr} {H : Hp} {h : Nat} {ls : List V} {v : V} (t : Thg b H v) (e : keptB H h ls v = true) : ∃ a na l c, v = .ref a ∧ H a = some (.tup [.ref na, l, c]) ∧ tupOf H v = some [.ref na, l, c] ∧ nodeB H h (.ref na) = true ∧ levV H (.ref na) ≠ 0 ∧ numV l = true ∧ asideB H ls (levV H (.ref na)) (atV H (.ref na)) c = true ∧ Thg b H (.ref na) ∧ Thg b H l ∧ Thg b H c ∧ rowI H v = nodI H (.ref na) := by
  cases et : tupOf H v with
  | none => rw [keptB_no et] at e; cases e
  | some xs =>
    by_cases h3 : xs.length = 3
    rotate_left
    · rw [keptB_len et h3] at e; cases e
    obtain ⟨n, l, c, rfl⟩ : ∃ n l c, xs = [n, l, c] := by
      match xs, h3 with
      | [n, l, c], _ => exact ⟨n, l, c, rfl⟩
    obtain ⟨a, rfl, ha, _, q⟩ := tupOf_sub t et
    rw [keptB_at et, Bool.and_eq_true, Bool.and_eq_true, Bool.and_eq_true] at e
    obtain ⟨e1, e2, e3, e4⟩ := e
    have tn := q n (by simp)
    obtain ⟨na, rfl, hna, ena, _⟩ := node_of tn e1
    refine ⟨a, na, l, c, rfl, ha, rfl, e1, of_decide_eq_true e2, e3, e4, tn, q l (by simp), q c (by simp), ?_⟩
    unfold rowI
    rw [et]
theorem scNd : FnScope ["height", "leaves", "thing", "row"] ["height", "leaves", "thing"] (defScope sNods) := ⟨rfl, rfl, rfl, by decide +kernel, rfl, by decide +kernel, by decide +kernel⟩
theorem ok_nods {f : Addr} {fd : FuncData} {k : Nat} (F : Fun K "is_nodes" "is_nodes" sNods f fd) (T : Tx mg) (cK : Cal P w K mg base (k + 3) "is_kept_node" ["height", "leaves", "thing"] spKept) (cA : Cal P w K mg base (k + 3) "ascends" ["things"] spAsc) : FnOk P w K mg base CX0 (k + 4) f fd ["height", "leaves", "thing"] spNods := by
  refine F.ok scNd (fun vs H Q E h => ?_) (fun cdv A outer s H vs Q E hr h => ?_)
  · obtain ⟨b, h, la, ls, v, rfl, _⟩ := h
    rfl
  · obtain ⟨b, h, la, ls, v, rfl, hh, hla, hv, q⟩ := h
    obtain ⟨t, ht⟩ := hv.th
    refine ⟨_, (pss_cons (ps_if (pt_or (pt_not (pt_val (pe_callB call_isTh (by rfl) T.isi (by decide +kernel) (pa_cons (pv 2) (pa_cons (pe_bltn (v := .ty "tuple") (u := .type "tuple") (by rfl) T.tuple_ (by decide +kernel) rfl) pa_nil))))) (pw_or1 (pt_not (pt_val (pe_callB (cr_all rfl) (by rfl) T.all_ (by decide +kernel) (pa_cons (pe_lc (own := [("row", 3)]) (g := gName 3) (te := tCall spKept [] E0 (tCons (tVar 0) (tCons (tVar 1) (tCons (tVar 3) tNil)))) rfl scNd.nd (pi_tup (pv 2)) (blkOk_by (N := ["height", "leaves", "thing", "row"]) (sc := defScope sNods) (by decide +kernel)) (fun _ _ _ _ _ => pg_name (i := 3) scNd.nd rfl (Or.inl rfl)) (fun _ _ _ _ _ => pts_nil) (fun _ _ _ _ _ => (pe_c cK hr (by omega) (by rfl) (pa_cons (pv 0) (pa_cons (pv 1) (pa_cons (pv 3) pa_nil)))))) pa_nil)))))) (pss_one (ps_ret pe_bl)) pss_nil) (pss_one (ps_ret (pe_c cA hr (by omega) (by rfl) (pa_cons (pe_lc (own := [("row", 3)]) (g := gName 3) (te := tOp (rIxT K) (tVar 3) (tC (.int 0))) rfl scNd.nd (pi_tup (pv 2)) (blkOk_by (N := ["height", "leaves", "thing", "row"]) (sc := defScope sNods) (by decide +kernel)) (fun _ _ _ _ _ => pg_name (i := 3) scNd.nd rfl (Or.inl rfl)) (fun _ _ _ _ _ => pts_nil) (fun _ _ _ _ _ => (pe_ix ix_tup (pv 3) pe_int (fun _ _ => rfl)))) pa_nil))))), ?_⟩
    refine ⟨_, rfl, _, "tuple", t, rfl, ht, by decide, _, rfl, ?_⟩
    rcases tup_cases ht with ⟨a, xs, rfl, hx, e, rfl⟩ | ⟨e1, e2⟩
    rotate_left
    · rw [e2]
      rw [nodesB_no e1] at q
      exact iteT (q _ (Same.refl _))
    obtain ⟨hl, hxs⟩ := hv.sub hx
    rw [nodesB_at e] at q
    refine iteF ⟨_, rfl, a, rfl, ⟨_, .of hx⟩, fun D nD => ?_⟩
    refine lcP walk_tup (fun i => V.bl (keptB H h ls (xs.getD i .non))) (Nat.lt_of_le_of_lt hl (by decide)) nD (fun _ sm => .of (sm _ _ hx)) ?_ ?_
    · rintro i y G3 G4 Q' hi sm ⟨rfl, hy⟩ hq
      have eg : xs.getD i .non = y := by rw [List.getD_eq_getElem?_getD, hy]; rfl
      rw [eg] at hq
      have ty := hxs y (List.mem_of_getElem? hy)
      refine ⟨rfl, _, rfl, _, rfl, _, rfl, b, h, la, ls, y, rfl, hh, sm _ _ hla, ty.same sm, fun G5 s5 => ?_⟩
      rw [keptB_bl ty (.same sm)]
      exact hq _ s5
    intro G sm hd1
    refine ⟨D, (List.range xs.length).map fun i => keptB H h ls (xs.getD i .non), rfl, .inl (.inl (by rw [hd1, List.map_map]; rfl)), _, rfl, ?_⟩
    rw [range_all]
    cases hb : xs.all (keptB H h ls) with
    | false =>
      rw [hb] at q
      exact iteT (q _ sm)
    | true =>
    rw [hb, Bool.true_and] at q
    refine iteF ⟨_, rfl, a, rfl, ⟨_, .of (sm _ _ hx)⟩, fun D2 nD2 => ?_⟩
    have rw1 : ∀ x ∈ xs, ∃ (c na : Addr) (l d : V), x = V.ref c ∧ H c = some (.tup [.ref na, l, d]) ∧ H na = some (.tup ((rowI H x).map V.int)) := fun x hm => by
      obtain ⟨c, na, l, d, e1, e2, _, e4, _, _, _, e8, _, _, e9⟩ := kept_of (hxs x hm) (List.all_eq_true.mp hb x hm)
      obtain ⟨na', e10, e11, _, _, _, e12⟩ := node_of e8 e4
      cases e10
      rw [e9, e12]
      exact ⟨c, na, l, d, e1, e2, e11⟩
    have fst : ∃ as : List Addr, as.length = xs.length ∧ Paired (fun a p => H a = some (.tup (p.map V.int))) as (xs.map (rowI H)) ∧ ∀ (i : Nat) (x : V), xs[i]? = some x → ∃ (c na : Addr) (l d : V), x = V.ref c ∧ H c = some (.tup [.ref na, l, d]) ∧ as[i]? = some na := by
      clear hd1 hb q hx e hl hxs hv ht
      induction xs with
      | nil => exact ⟨[], rfl, .nil, by simp⟩
      | cons x r ih =>
        obtain ⟨as, h1, h2, h3⟩ := ih (fun y hy => rw1 y (List.mem_cons_of_mem _ hy))
        obtain ⟨c, na, l, d, e1, e2, e3⟩ := rw1 x List.mem_cons_self
        refine ⟨na :: as, by simp [h1], .cons e3 h2, fun i y hy => ?_⟩
        cases i with
        | zero =>
          rw [List.getElem?_cons_zero] at hy
          cases hy
          exact ⟨c, na, l, d, e1, e2, rfl⟩
        | succ i => rw [List.getElem?_cons_succ] at hy ⊢; exact h3 i y hy
    obtain ⟨as, hal, hap, hai⟩ := fst
    refine lcP walk_tup (fun i => (as.map V.ref).getD i .non) (Nat.lt_of_le_of_lt hl (by decide)) nD2 (fun _ s2 => .of (s2 _ _ (sm _ _ hx))) ?_ ?_
    · rintro i y G3 G4 Q' hi s2 ⟨rfl, hy⟩ hq
      obtain ⟨c, na, l, d, rfl, e2, e3⟩ := hai i y hy
      have eg : (as.map V.ref).getD i .non = .ref na := by rw [List.getD_eq_getElem?_getD, List.getElem?_map, e3]; rfl
      rw [eg] at hq
      exact ⟨rfl, _, rfl, c, _, _, .ref na, rfl, rfl, .of (s2 _ _ (sm _ _ e2)), atI_nat (j := 0) rfl, hq _ (Same.refl _)⟩
    intro G3 s3 hd3
    have el : (List.range xs.length).map (fun i => (as.map V.ref).getD i .non) = as.map V.ref := by
      rw [← hal, ← List.length_map (f := V.ref)]
      apply List.ext_getElem
      · simp
      · intro i h1 h2
        rw [List.getElem_map, List.getElem_range, List.getD_eq_getElem?_getD, List.getElem?_eq_getElem h2]; rfl
    rw [el] at hd3
    have s03 := sm.trans s3
    exact ⟨D2, _, rfl, .inl hd3, by rw [List.length_map, hal]; exact hl, .inr ⟨as, _, rfl, Paired.mapP hap fun _ _ z => s03 _ _ z, fun G4 s4 => q _ (s03.trans s4)⟩⟩
end
end L2.My
end
section
set_option Elab.async false
set_option linter.all false
set_option maxRecDepth 100000
set_option maxHeartbeats 4000000
/-! == and != of an instance whose class has its own ==. -/
namespace L2.My
open PySem PySem.Spec PyProof.Rows
section
variable {M : Model} {prog : Program} {w : World} {A : Around} {E : Value → Shared → Prop} {s : Shared} {K : PySem.W.Frag} {x C f L : Addr} {ox : Obj} {od : Option Obj} {b tb : Value} {h₀ : Heap} {m : Str → Option Value}
theorem ne_entry {Q : Fin → Shared → Prop} (hu : A.units < cLine) (X : K.In s.heap) (I : PySem.W.InstAt s.heap x ox C od) (hs : PySem.W.findIn K (.ref C) "__eq__" = some (some (.ref f))) (hf : PySem.W.isFn K (.ref f) = true)
    (h : wpAny (model prog w) A (call (.ref f) [.ref x, b]) (fun v s' => ∃ c, v = .bool c ∧ Q (.done (.ret (.bool (!c)))) s') E s) : wpAny (model prog w) A (Builtin.«object.__ne__» ⟨[.ref x, b], []⟩) Q E s := by
  unfold Builtin.«object.__ne__»
  repeat (first
    | with_reducible refine wpAny_cRoomFor hu ?_
    | (refine wpAny_bind (m := callSpecialIfBound? (.ref x) (Str.ofString "__eq__") [b])
        (PySem.W.ifBound_K X I hs hf (wpAny_mono h (fun r s' hr => by
          obtain ⟨c, rfl, hq⟩ := hr
          repeat (first | exact hq | exact wpAny_pure hq | exact wpAny_truthy_bool hq | (refine wpAny_bind (m := truthy (.bool _)) (wpAny_truthy_bool ?_)) | wp_step)) fun _ _ e => e)))
    | wp_step)
theorem ifBound_ne {args : List Value} {Q : Option Value → Shared → Prop} (X : K.In s.heap) (I : PySem.W.InstAt s.heap x ox C od) (hs : PySem.W.findIn K (.ref C) "__ne__" = some (some (.builtin "object.__ne__")))
    (h : wpAny M A (call (.builtin "object.__ne__") (.ref x :: args)) (fun v => Q (some v)) E s) : wpAny M A (callSpecialIfBound? (.ref x) "__ne__" args) Q E s := by
  simp only [callSpecialIfBound?, bindSpecialIfBound?]
  refine wpAny_holding (wpAny_bind (wpAny_bind (wpAny_bind (I.type.here ((PySem.W.looks_findIn X hs).here ?_)))))
  refine wpAny_bind (wpAny_askSetting (wpAny_ite ?_))
  have fin : wpAny M A (call (.builtin "object.__ne__") ([.ref x] ++ args) >>= fun v => pure (some v)) Q E s := wpAny_bind (wpAny_mono h (fun v s' h' => wpAny_pure h') fun _ _ h' => h')
  split
  · exact wpAny_bind (wpAny_of_eq (F.cmp_object.ne.bind _) (wpAny_pure (by exact fin)))
  · exact wpAny_tryCatch (wpAny_bind (wpAny_of_eq (F.cmp_object.ne.bind _) (wpAny_pure (by exact fin))))
theorem ne_K {Q : Value → Shared → Prop} (hu : A.units + 1 < cLine) (X : K.In s.heap) (I : PySem.W.InstAt s.heap x ox C od) (hb : PySem.W.Looks (model prog w) s.heap (typeOf b) tb) (hn : PySem.W.notFirst K C tb = true)
    (hs : PySem.W.findIn K (.ref C) "__eq__" = some (some (.ref f))) (hf : PySem.W.isFn K (.ref f) = true) (hne : PySem.W.findIn K (.ref C) "__ne__" = some (some (.builtin "object.__ne__"))) (hm : PySem.W.mroIn K C (.type "object") = some true)
    (h : wpAny (model prog w) A.in1 (call (.ref f) [.ref x, b]) (fun v s' => ∃ c, v = .bool c ∧ Q (.bool (!c)) s') E s) : wpAny (model prog w) A (richCompare .NotEq (.ref x) b) Q E s := by
  have one : wpAny (model prog w) A (tryCompare (.ref x) "__ne__" b) (fun r s' => ∃ v, r = some v ∧ Q v s') E s := by
    unfold tryCompare
    refine wpAny_bind (ifBound_ne X I hne (wpAny_call (codeAny_call_builtin F.cmp_object.ne.plain F.cmpEntry_ne (PySem.W.check_slot F.cmpKind_ne F.cmpSplit_ne (I.type.andThen (PySem.W.looks_mroIn X hm)) (F.cmpArgs_ne _ _)
      (ne_entry (A := A.in1) hu X I hs hf (wpAny_mono h (fun v s' hv => ?_) fun _ _ e => e))))))
    obtain ⟨c, rfl, hq⟩ := hv
    exact ⟨c, rfl, wpAny_pure ⟨_, rfl, hq⟩⟩
  unfold richCompare
  simp only [oneThing_ref]
  refine wpAny_holding (wpAny_bind (wpAny_cRoomFor (by omega) ?_))
  refine wpAny_bind (I.type.here (wpAny_bind (hb.here ?_)))
  split
  · rename_i q
    have e : PySem.W.subIn K tb (.ref C) = some false := by
      rcases Bool.or_eq_true_iff.mp hn with e | e
      · rw [beq_iff_eq.mp e] at q; simp at q
      · exact beq_iff_eq.mp e
    refine wpAny_bind ((PySem.W.looks_subIn X e).here ?_)
    simp only [Bool.false_eq_true, if_false]
    refine wpAny_bind (wpAny_mono one (fun r s' z => ?_) fun _ _ e => e)
    obtain ⟨v, rfl, hq⟩ := z
    exact wpAny_pure hq
  · refine wpAny_bind (wpAny_pure ?_)
    simp only [Bool.false_eq_true, if_false]
    refine wpAny_bind (wpAny_mono one (fun r s' z => ?_) fun _ _ e => e)
    obtain ⟨v, rfl, hq⟩ := z
    exact wpAny_pure hq
end
/-- the type of a value, as the right side of a comparison -/
def rOwnEq (K : PySem.W.Frag) (C : Addr) (sp : Sp) (neg : Bool) : R2 := fun x y H Q => ∃ a dx fs tb, x = .ref a ∧ H a = some (.ins C dx fs) ∧ TyX K H y tb ∧ PySem.W.notFirst K C tb = true ∧ sp [x, y] H (fun v H' => ∃ c, v = .bl c ∧ Q (.bl (if neg then !c else c)) H') E0
section
variable {X : Cx} {n : Nat} {CX : CXT} {C f : Addr} {fd : FuncData} {ps : List Str} {sp : Sp}
theorem looks_of {pins : List (Addr × Obj)} {σ : St} {H : Hp} {s : Shared} {y : V} {u tb : Value} (I : Inv X pins σ H s) (ry : RelV y u) (t : TyX X.K H y tb) : PySem.W.Looks (model X.prog X.w) s.heap (typeOf u) tb := by
  obtain ⟨P, Z, p, hx⟩ := kit_of I ry t
  exact Z.ty _ _ I.kIn p
theorem run_own {A : Around} {pins : List (Addr × Obj)} {σ : St} {H : Hp} {s : Shared} {x y : V} {u v : Value} {R0 : VK} {R : Value → Shared → Prop} (F : FnOk X.prog X.w X.K X.mg X.base CX n f fd ps sp) (hb : Binds X.K fd ps []) (hx : Passes CX X E0) (hr : Room n A) (fr : A.frames = X.A.frames)
    (I : Inv X pins σ H s) (rx : RelV x u) (ry : RelV y v) (hsp : sp [x, y] H R0 E0) (hR : ∀ z w H' s', Inv X pins σ H' s' → RelV z w → R0 z H' → R w s') :
    wpAny (model X.prog X.w) A (call (.ref f) [u, v]) R X.xe s := by
  have e0 : Env0 X.prog X.w X.K X.mg X.base A X.stack s H := by
    have e := I.env0
    exact ⟨by rw [fr]; exact e.frames, e.mod, e.bs, e.bsz, e.funs, e.frf, e.hok, e.bare⟩
  have hl := F.len _ _ _ _ hsp
  have r2 : Vals [x, y] [u, v] := .cons rx (.cons ry .nil)
  refine wpAny_call (codeAny_mono (F.run A X.stack s H ⟨[u, v], []⟩ [u, v] [x, y] _ E0 hr e0 (by
    have := hb s [u, v] I.kIn (by simpa using hl)
    simpa using this) r2 hsp) fun r s' hq => ?_)
  cases r with
  | error e => exact hx pins σ H s e s' I hq
  | ok fl =>
    cases fl with
    | ret w =>
      obtain ⟨z, H', I', rz, q⟩ := I.after hq
      exact hR z w H' s' I' rz q
    | next => exact False.elim hq
    | brk => exact False.elim hq
    | cont => exact False.elim hq
theorem op_eqO (F : FnOk X.prog X.w X.K X.mg X.base CX n f fd ps sp) (hr : Room n X.A) (hs : PySem.W.findIn X.K (.ref C) "__eq__" = some (some (.ref f))) (hf : PySem.W.isFn X.K (.ref f) = true) (hb : Binds X.K fd ps []) (hx : Passes CX X E0) :
    OpR X (compareOp .Eq) (rOwnEq X.K C sp false) := by
  intro pins s σ H x y u v Q I rx ry h
  obtain ⟨a, dx, fs, tb, rfl, ha, ty, hn, hsp⟩ := h
  cases rx
  obtain ⟨mA, J, _⟩ := ins_get I.hok ha
  obtain ⟨od, J, _⟩ := J.look
  obtain ⟨m, hF⟩ := I.fr
  refine PySem.W.cmp_K (op := .Eq) (tb := tb) hr.units0 hF I.ok.mod.kin J (looks_of I ry ty) hn hs hf ?_
  refine run_own (x := .ref a) F hb hx hr rfl I rfl ry hsp fun z w H' s' I' rz q => ?_
  obtain ⟨c, rfl, q⟩ := q
  cases rz
  exact ⟨.bl c, H', I', rfl, q⟩
theorem op_neO (F : FnOk X.prog X.w X.K X.mg X.base CX n f fd ps sp) (hr : Room (n + 1) X.A) (hs : PySem.W.findIn X.K (.ref C) "__eq__" = some (some (.ref f))) (hf : PySem.W.isFn X.K (.ref f) = true) (hb : Binds X.K fd ps []) (hx : Passes CX X E0)
    (hne : PySem.W.findIn X.K (.ref C) "__ne__" = some (some (.builtin "object.__ne__"))) (hm : PySem.W.mroIn X.K C (.type "object") = some true) : OpR X (compareOp .NotEq) (rOwnEq X.K C sp true) := by
  intro pins s σ H x y u v Q I rx ry h
  obtain ⟨a, dx, fs, tb, rfl, ha, ty, hn, hsp⟩ := h
  cases rx
  obtain ⟨mA, J, _⟩ := ins_get I.hok ha
  obtain ⟨od, J, _⟩ := J.look
  refine ne_K (by have := hr.un; omega) I.kIn J (looks_of I ry ty) hn hs hf hne hm ?_
  refine run_own (x := .ref a) F hb hx hr.in1 rfl I rfl ry hsp fun z w H' s' I' rz q => ?_
  obtain ⟨c, rfl, q⟩ := q
  cases rz
  exact ⟨c, rfl, .bl (!c), H', I', rfl, q⟩
end
end L2.My
end
section
set_option Elab.async false
set_option linter.all false
set_option maxRecDepth 100000
set_option maxHeartbeats 4000000
/-! A tree is made, or BadTree is raised. -/
namespace L2.My
open PySem PySem.Spec PyProof.Rows
/-- the first part that is none -/
def badT (H : Hp) (h l n : V) : Option Str := if belowV 9 h = true then (if leavesB H (iV h) l = true then (if nodesB H (iV h) ((tupOf H l).getD []) n = true then none else some "nodes") else some "leaves") else some "height"
structure TrC (K : PySem.W.Frag) (C : Addr) : Prop where
  cls : Cls K C
  na : ∀ f ∈ (["height", "leaves", "nodes"] : List Str), NoAttr K C f
def spPart (C : Addr) : Sp := fun vs H Q _ => ∃ a v, vs = [.ref a, v] ∧ H a = some (exo a C none) ∧ ∀ dx H2, H dx = none → dx ≠ a → H2 = upd (upd H dx (exd dx [("part", v)])) a (exo a C (some dx)) → Q .non H2
/-- the facts of BadTree -/
structure BadC (P : Program) (w : World) (K : PySem.W.Frag) (mg : Str → Option Value) (base : Heap) (C : Addr) where
  x : XC K C
  no : PySem.W.findIn K (.ref C) "part" = some none
  fI : Addr
  fd : FuncData
  i : PySem.W.findIn K (.ref C) "__init__" = some (some (.ref fI))
  t : PySem.W.typeIn K (.ref fI) = some (.type "function")
  F : FnOk P w K mg base CX0 1 fI fd ["self", "part"] (spPart C)
  b : Binds K fd ["self", "part"] []
  g : mg "BadTree" = some (.ref C)
  P0 : Addr
  gP : mg "PostError" = some (.ref P0)
  ve : mg "ValueError" = none
  kP : PySem.W.kitOne K (.ref C) (.ref P0) = some true
  kV : PySem.W.kitOne K (.ref C) (.type "ValueError") = some true
  te : PySem.W.exmOne K (.ref C) (.ref C) = some true
theorem bad_of {C : Addr} {H1 : Hp} {v : V} {Q : XK} (h : ∀ H2 d, Same H1 H2 → H1 d = none → H2 d = some (.xd [("part", v)]) → Q (.ref C) (some d) H2) :
    [v].length ≤ 1000 ∧ ∀ a, H1 a = none → spPart C (.ref a :: ([v] ++ [])) (upd H1 a (exo a C none)) (fun u H2 => u = .non ∧ ∃ (d : Addr) (fs : List (Str × V)), H2 a = some (exo a C (some d)) ∧ H2 d = some (exd d fs) ∧ H1 d = none ∧ Q (.ref C) (some d) (upd (del H2 a) d (.xd fs))) (fun _ _ _ => False) := by
  refine ⟨by show 1 ≤ 1000; decide, fun a ha => ⟨a, v, rfl, upd_same, fun dx H2 hdx ne e => ⟨rfl, dx, [("part", v)], ?_, ?_, ?_, ?_⟩⟩⟩
  · rw [e, upd_same]
  · rw [e, upd_ne ne, upd_same]
  · rw [upd_ne ne] at hdx; exact hdx
  · have hd1 : H1 dx = none := by rw [upd_ne ne] at hdx; exact hdx
    refine h _ dx (fun p o hp => ?_) hd1 upd_same
    have n1 : p ≠ dx := fun z => by rw [z, hd1] at hp; cases hp
    have n2 : p ≠ a := fun z => by rw [z, ha] at hp; cases hp
    rw [upd_ne n1]
    show (if p = a then none else H2 p) = some o
    rw [if_neg n2, e, upd_ne n2, upd_ne n1, upd_ne n2]
    exact hp
abbrev sBad : Stmt := mB 0
def spTree (C B : Addr) : Sp := fun vs H Q E => ∃ b x dx h l n, vs = [.ref x, h, l, n] ∧ H x = some (.ins C dx []) ∧ Thg b H h ∧ Thg b H l ∧ Thg b H n ∧
  (badT H h l n = none → ∀ H', BL [x] H H' → H' x = some (.ins C dx [("height", h), ("leaves", l), ("nodes", n)]) → Q .non H') ∧
  (∀ z, badT H h l n = some z → ∀ H' d, Same H H' → H d = none → H' d = some (.xd [("part", .str z)]) → E (.ref B) (some d) H')
theorem leavesB_tup {H : Hp} {h : Nat} {v : V} (e : leavesB H h v = true) : ∃ xs, tupOf H v = some xs := by
  cases z : tupOf H v with
  | none => rw [leavesB_no z] at e; cases e
  | some xs => exact ⟨xs, rfl⟩
theorem leavesB_bl {b : Addr} {H H' : Hp} {h : Nat} {v : V} (t : Thg b H v) (s : BL [b] H H') : leavesB H' h v = leavesB H h v := by
  cases e : tupOf H v with
  | none => rw [leavesB_no e, leavesB_no ((tupOf_bl t s).trans e)]
  | some xs =>
    obtain ⟨a, _, _, _, q⟩ := tupOf_sub t e
    rw [leavesB_at e, leavesB_at ((tupOf_bl t s).trans e)]
    have qf : ∀ x ∈ xs.filter notNon, Thg b H x := fun x hx => q x (List.mem_filter.mp hx).1
    rw [all_congr (p := memB H') (q := memB H) fun x hx => by unfold memB; rw [tupOf_bl (qf x hx) s], List.map_congr_left (f := nameV H') (g := nameV H) fun x hx => by unfold nameV; rw [tupOf_bl (qf x hx) s]]
theorem nodesB_bl {b : Addr} {H H' : Hp} {h : Nat} {ls : List V} {v : V} (t : Thg b H v) (s : BL [b] H H') : nodesB H' h ls v = nodesB H h ls v := by
  cases e : tupOf H v with
  | none => rw [nodesB_no e, nodesB_no ((tupOf_bl t s).trans e)]
  | some xs =>
    obtain ⟨a, _, _, _, q⟩ := tupOf_sub t e
    rw [nodesB_at e, nodesB_at ((tupOf_bl t s).trans e)]
    rw [all_congr (p := keptB H' h ls) (q := keptB H h ls) fun x hx => keptB_bl (q x hx) s, List.map_congr_left (f := rowI H') (g := rowI H) fun x hx => rowI_bl (q x hx) s]
theorem badT_bl {b : Addr} {H H' : Hp} {h l n : V} (tl : Thg b H l) (tn : Thg b H n) (s : BL [b] H H') : badT H' h l n = badT H h l n := by
  unfold badT
  rw [leavesB_bl tl s, tupOf_bl tl s, nodesB_bl tn s]
section
variable {P : Program} {w : World} {K : PySem.W.Frag} {mg : Str → Option Value} {base : Heap} {C B : Addr}
theorem scBad : FnScope ["self", "part"] ["self", "part"] (defScope sBad) := ⟨rfl, rfl, rfl, by decide +kernel, rfl, by decide +kernel, by decide +kernel⟩
theorem ok_bad {f : Addr} {fd : FuncData} (F : Fun K "__init__" "BadTree.__init__" sBad f fd) (T : OexC K C) (hno : PySem.W.findIn K (.ref C) "part" = some none) : FnOk P w K mg base CX0 1 f fd ["self", "part"] (spPart C) := by
  refine F.ok scBad (fun vs H Q E h => ?_) (fun cdv A outer s H vs Q E hr h => ?_)
  · obtain ⟨a, v, rfl, _⟩ := h
    rfl
  · obtain ⟨a, v, rfl, ha, q⟩ := h
    exact ⟨_, pss_one (ps_ost (pv 0) (pv 1)), ⟨_, rfl, _, rfl, a, C, rfl, T, hno, .inl ⟨ha, fun dx n ne => q dx _ n ne rfl⟩⟩⟩
theorem scTr : FnScope ["self", "height", "leaves", "nodes"] ["self", "height", "leaves", "nodes"] (defScope (mT 0)) := ⟨rfl, rfl, rfl, by decide +kernel, rfl, by decide +kernel, by decide +kernel⟩
theorem ok_tree {f : Addr} {fd : FuncData} {k : Nat} (F : Fun K "__init__" "Tree.__init__" (mT 0) f fd) (T : Tx mg) (c : TrC K C) (N : BadC P w K mg base B) (cB : Cal P w K mg base (k + 4) "is_below" ["bound", "thing"] spBelow) (cL : Cal P w K mg base (k + 4) "is_leaves" ["height", "thing"] spLeav) (cN : Cal P w K mg base (k + 4) "is_nodes" ["height", "leaves", "thing"] spNods) :
    FnOk P w K mg base (CX P w) (k + 5) f fd ["self", "height", "leaves", "nodes"] (spTree C B) := by
  obtain ⟨t1, h1⟩ := T.mh
  refine F.okX scTr (fun vs H Q E h => ?_) (fun cdv A outer s H vs Q E hr h => ?_)
  · obtain ⟨b, x, dx, h, l, n, rfl, _⟩ := h
    rfl
  · obtain ⟨b, x, dx, h, l, n, rfl, hx, th, tl, tn, q, qe⟩ := h
    have tk := takes_of (X := cxOf (CX P w) P w K mg base ["self", "height", "leaves", "nodes"] "Tree.__init__" (defScope (mT 0)) f cdv A outer s H E) (E := E) rfl rfl rfl rfl
    refine ⟨_, (pss_cons (ps_if (pt_not (pt_val (pe_c cB hr (by omega) (by rfl) (pa_cons (pe_op op_add (pe_glob (v := .int 8) (by rfl) h1 ⟨_, rfl⟩) pe_int) (pa_cons (pv 1) pa_nil))))) (pss_one (ps_raise rfl tk (pmk_oex N.x.o N.i N.t N.F (hr.mono (by omega)) N.b .nil pass0 (by rfl) N.g (pa_cons pe_str pa_nil)))) pss_nil) (pss_cons (ps_if (pt_not (pt_val (pe_c cL hr (by omega) (by rfl) (pa_cons (pv 1) (pa_cons (pv 2) pa_nil))))) (pss_one (ps_raise rfl tk (pmk_oex N.x.o N.i N.t N.F (hr.mono (by omega)) N.b .nil pass0 (by rfl) N.g (pa_cons pe_str pa_nil)))) pss_nil) (pss_cons (ps_if (pt_not (pt_val (pe_c cN hr (by omega) (by rfl) (pa_cons (pv 1) (pa_cons (pv 2) (pa_cons (pv 3) pa_nil)))))) (pss_one (ps_raise rfl tk (pmk_oex N.x.o N.i N.t N.F (hr.mono (by omega)) N.b .nil pass0 (by rfl) N.g (pa_cons pe_str pa_nil)))) pss_nil) (pss_cons (ps_fld (pv 0) (pv 1) rfl) (pss_cons (ps_fld (pv 0) (pv 2) rfl) (pss_one (ps_fld (pv 0) (pv 3) rfl))))))), ?_⟩
    unfold badT at q qe
    refine ⟨_, _, rfl, rfl, _, rfl, b, _, h, rfl, th, _, rfl, ?_⟩
    have e9 : belowV ((8 : Int) + 1) h = belowV 9 h := rfl
    rw [e9]
    cases hb : belowV 9 h with
    | false =>
      rw [hb] at qe
      exact iteT (bad_of fun H2 d s n e => qe "height" (by rw [if_neg Bool.false_ne_true]) H2 d s n e)
    | true =>
    rw [hb, if_pos rfl] at q qe
    obtain ⟨b1, b2, b3⟩ := below_int hb
    generalize iV h = hn at *
    subst b1
    refine iteF ⟨_, rfl, _, rfl, b, hn, l, rfl, by omega, tl, fun H2 s2 => ⟨_, rfl, ?_⟩⟩
    cases hl : leavesB H hn l with
    | false =>
      rw [hl] at qe
      exact iteT (bad_of fun H3 d s n e => qe "leaves" (by rw [if_neg Bool.false_ne_true]) H3 d (s2.trans s) (s2.free n) e)
    | true =>
    rw [hl, if_pos rfl] at q qe
    obtain ⟨ls, els⟩ := leavesB_tup hl
    obtain ⟨la, rfl, hla, _, _⟩ := tupOf_sub tl els
    rw [els, Option.getD_some] at q qe
    refine iteF ⟨_, rfl, _, rfl, _, rfl, b, hn, la, ls, n, rfl, by omega, s2 _ _ hla, tn.same s2, fun H3 s3 => ⟨_, rfl, ?_⟩⟩
    rw [nodesB_bl tn (.same s2)]
    have s23 := s2.trans s3
    cases hnn : nodesB H hn ls n with
    | false =>
      rw [hnn] at qe
      exact iteT (bad_of fun H4 d s n e => qe "nodes" (by rw [if_neg Bool.false_ne_true]) H4 d (s23.trans s) (s23.free n) e)
    | true =>
    rw [hnn] at q
    have hx3 := s23 _ _ hx
    refine iteF ⟨_, rfl, _, rfl, x, C, dx, _, rfl, hx3, c.cls, c.na _ (by simp), by show 0 < 1000; decide, ?_⟩
    refine ⟨_, rfl, _, rfl, x, C, dx, _, rfl, upd_same, c.cls, c.na _ (by simp), by show 1 < 1000; decide, ?_⟩
    refine ⟨_, rfl, _, rfl, x, C, dx, _, rfl, upd_same, c.cls, c.na _ (by simp), by show 2 < 1000; decide, ?_⟩
    refine q rfl _ (BL.trans (.same s23) (BL.trans (.upd (by simp)) (BL.trans (.upd (by simp)) (.upd (by simp))))) (by rw [upd_same]; rfl)
end
end L2.My
end
section
set_option Elab.async false
set_option linter.all false
set_option maxRecDepth 100000
set_option maxHeartbeats 4000000
/-! Trees as data. -/
namespace L2.My
open PySem PySem.Spec PyProof.Rows
abbrev Lf : Type := Option (Str × Int)
abbrev Nd : Type := (Nat × Nat) × (Int × List Nat)
def nN (l : List Nat) : List V := l.map fun (j : Nat) => V.int j
def LfAt (H : Hp) (v : V) (l : Lf) : Prop := match l with
  | none => v = .non
  | some (z, i) => ∃ a, v = .ref a ∧ H a = some (.tup [.str z, .int i])
def NdAt (H : Hp) (v : V) (n : Nd) : Prop := ∃ a na ca, v = .ref a ∧ H a = some (.tup [.ref na, .int n.2.1, .ref ca]) ∧ H na = some (.tup [.int (n.1.1 : Nat), .int (n.1.2 : Nat)]) ∧ H ca = some (.tup (nN n.2.2))
def LvsAt (H : Hp) (a : Addr) (ls : List Lf) : Prop := ∃ vs, H a = some (.tup vs) ∧ Paired (LfAt H) vs ls
def NdsAt (H : Hp) (a : Addr) (ns : List Nd) : Prop := ∃ vs, H a = some (.tup vs) ∧ Paired (NdAt H) vs ns
theorem LfAt.tk {H H' : Hp} {v : V} {l : Lf} (h : LfAt H v l) (t : TK H H') : LfAt H' v l := by
  cases l with
  | none => exact h
  | some p =>
    obtain ⟨a, e, h1⟩ := h
    exact ⟨a, e, t _ _ h1⟩
theorem NdAt.tk {H H' : Hp} {v : V} {n : Nd} (h : NdAt H v n) (t : TK H H') : NdAt H' v n := by
  obtain ⟨a, na, ca, e, h1, h2, h3⟩ := h
  exact ⟨a, na, ca, e, t _ _ h1, t _ _ h2, t _ _ h3⟩
theorem LvsAt.tk {H H' : Hp} {a : Addr} {ls : List Lf} (h : LvsAt H a ls) (t : TK H H') : LvsAt H' a ls := by
  obtain ⟨vs, h1, h2⟩ := h
  exact ⟨vs, t _ _ h1, Paired.mapP h2 fun _ _ z => z.tk t⟩
theorem NdsAt.tk {H H' : Hp} {a : Addr} {ls : List Nd} (h : NdsAt H a ls) (t : TK H H') : NdsAt H' a ls := by
  obtain ⟨vs, h1, h2⟩ := h
  exact ⟨vs, t _ _ h1, Paired.mapP h2 fun _ _ z => z.tk t⟩
def dLf (l : Lf) : PyData := match l with
  | none => .none
  | some (z, i) => .tuple [.str z, .int i]
def dNats (l : List Nat) : PyData := .tuple (l.map fun (j : Nat) => PyData.int j)
def dNd (n : Nd) : PyData := .tuple [.tuple [.int (n.1.1 : Nat), .int (n.1.2 : Nat)], .int n.2.1, dNats n.2.2]
def dLvs (ls : List Lf) : PyData := .tuple (ls.map dLf)
def dNds (ns : List Nd) : PyData := .tuple (ns.map dNd)
/-! ### they are told by the heap -/
theorem dpNats {K : PySem.W.Frag} {H : Hp} : ∀ l : List Nat, DpAll K H (nN l) (l.map fun (j : Nat) => PyData.int j)
  | [] => .nil
  | j :: r => .cons (.int _) (dpNats r)
theorem dpLf {K : PySem.W.Frag} {H : Hp} {v : V} {l : Lf} (h : LfAt H v l) : Dp K H v (dLf l) := by
  cases l with
  | none => cases h; exact .non
  | some p =>
    obtain ⟨a, rfl, h1⟩ := h
    exact .tup (.of h1) (.cons (.str _) (.cons (.int _) .nil))
theorem dpNd {K : PySem.W.Frag} {H : Hp} {v : V} {n : Nd} (h : NdAt H v n) : Dp K H v (dNd n) := by
  obtain ⟨a, na, ca, rfl, h1, h2, h3⟩ := h
  exact .tup (.of h1) (.cons (.tup (.of h2) (.cons (.int _) (.cons (.int _) .nil))) (.cons (.int _) (.cons (.tup (.of h3) (dpNats _)) .nil)))
theorem dp_map {K : PySem.W.Frag} {H : Hp} {α : Type} {R : V → α → Prop} {f : α → PyData} {vs : List V} {xs : List α} (h : Paired R vs xs) (hr : ∀ v x, R v x → Dp K H v (f x)) : DpAll K H vs (xs.map f) := by
  induction h with
  | nil => exact .nil
  | cons r _ ih => exact .cons (hr _ _ r) ih
theorem dpLvs {K : PySem.W.Frag} {H : Hp} {a : Addr} {ls : List Lf} (h : LvsAt H a ls) : Dp K H (.ref a) (dLvs ls) := by
  obtain ⟨vs, h1, h2⟩ := h
  exact .tup (.of h1) (dp_map h2 fun _ _ r => dpLf r)
theorem dpNds {K : PySem.W.Frag} {H : Hp} {a : Addr} {ns : List Nd} (h : NdsAt H a ns) : Dp K H (.ref a) (dNds ns) := by
  obtain ⟨vs, h1, h2⟩ := h
  exact .tup (.of h1) (dp_map h2 fun _ _ r => dpNd r)
/-! ### equal just if they are the same -/
theorem eqv_int (i j : Int) : PyData.eqv (.int i) (.int j) = decide (i = j) := by
  rw [PyData.eqv, Bool.eq_iff_iff, beq_iff_eq, decide_eq_true_iff]
theorem eqv_lf (a b : Lf) : PyData.eqv (dLf a) (dLf b) = decide (a = b) := by
  cases a with
  | none =>
    cases b with
    | none => rfl
    | some p => rfl
  | some p =>
    obtain ⟨z, i⟩ := p
    cases b with
    | none => rfl
    | some q =>
      obtain ⟨y, j⟩ := q
      show PyData.eqv (.tuple [.str z, .int i]) (.tuple [.str y, .int j]) = _
      rw [PyData.eqv, PyData.eqvAll, PyData.eqvAll, PyData.eqvAll, eqv_s, eqv_int, Bool.and_true, ← Bool.decide_and]
      apply decide_eq_decide.mpr
      simp
theorem eqv_nats (a b : List Nat) : PyData.eqv (dNats a) (dNats b) = decide (a = b) := by
  unfold dNats
  rw [PyData.eqv]
  exact eqvAll_map (fun x y => by rw [eqv_int]; apply decide_eq_decide.mpr; omega) a b
theorem eqv_nd (a b : Nd) : PyData.eqv (dNd a) (dNd b) = decide (a = b) := by
  obtain ⟨⟨p, q⟩, i, l⟩ := a
  obtain ⟨⟨p', q'⟩, i', l'⟩ := b
  unfold dNd
  simp only [PyData.eqv, PyData.eqvAll, eqv_nats, eqv_int, Bool.and_true]
  rw [Bool.eq_iff_iff]
  simp only [Bool.and_eq_true, decide_eq_true_eq, beq_iff_eq, Prod.mk.injEq, Int.natCast_inj]
theorem eqv_lvs (a b : List Lf) : PyData.eqv (dLvs a) (dLvs b) = decide (a = b) := by
  unfold dLvs
  rw [PyData.eqv]
  exact eqvAll_map eqv_lf a b
theorem eqv_nds (a b : List Nd) : PyData.eqv (dNds a) (dNds b) = decide (a = b) := by
  unfold dNds
  rw [PyData.eqv]
  exact eqvAll_map eqv_nd a b
/-! ### small enough -/
structure Nice (d : PyData) : Prop where
  ls : d.leavesShort 42 = true
  sh : d.showable = true
  cl : d.canLay0 = true
  hd : d.hasDict = false
structure NiceAll (ds : List PyData) : Prop where
  ls : PyData.leavesShortAll 42 ds = true
  sh : PyData.showableAll ds = true
  cl : PyData.canLayAll0 ds = true
  hd : PyData.hasDictAll ds = false
theorem NiceAll.nil : NiceAll [] := ⟨rfl, rfl, rfl, rfl⟩
theorem NiceAll.cons {d : PyData} {ds : List PyData} (h : Nice d) (k : NiceAll ds) : NiceAll (d :: ds) :=
  ⟨by rw [PyData.leavesShortAll, h.ls, k.ls]; rfl, by rw [PyData.showableAll, h.sh, k.sh]; rfl, by rw [PyData.canLayAll0, h.cl, k.cl]; rfl, by rw [PyData.hasDictAll, h.hd, k.hd]; rfl⟩
theorem NiceAll.map {α : Type} {f : α → PyData} : ∀ {xs : List α}, (∀ x ∈ xs, Nice (f x)) → NiceAll (xs.map f)
  | [], _ => .nil
  | x :: r, h => .cons (h x List.mem_cons_self) (NiceAll.map fun y hy => h y (List.mem_cons_of_mem _ hy))
theorem Nice.tup {ds : List PyData} (h : NiceAll ds) : Nice (.tuple ds) := ⟨by rw [PyData.leavesShort]; exact h.ls, by rw [PyData.showable]; exact h.sh, by rw [PyData.canLay0]; exact h.cl, by rw [PyData.hasDict]; exact h.hd⟩
theorem Nice.lst {ds : List PyData} (h : NiceAll ds) : Nice (.list ds) := ⟨by rw [PyData.leavesShort]; exact h.ls, by rw [PyData.showable]; exact h.sh, by rw [PyData.canLay0]; exact h.cl, by rw [PyData.hasDict]; exact h.hd⟩
theorem Nice.non : Nice .none := ⟨rfl, rfl, rfl, rfl⟩
theorem Nice.boo (b : Bool) : Nice (.bool b) := ⟨rfl, rfl, rfl, rfl⟩
theorem Nice.int {i : Int} (h : i.natAbs ≤ 10 ^ 40) : Nice (.int i) := by
  have h1 : i.natAbs < 10 ^ 41 := Nat.lt_of_le_of_lt h (by decide)
  refine ⟨?_, ?_, rfl, rfl⟩
  · rw [PyData.leavesShort, decide_eq_true_iff]
    show (Str.ofString (toString i)).length ≤ 42
    rw [PySem.ofString_length]
    exact int_text_length_le10 (k := 41) (by decide) h1
  · rw [PyData.showable, decide_eq_true_iff]
    exact Nat.lt_of_lt_of_le (PySem.Flt.log2_lt_of (by decide) (Nat.lt_trans h1 (show 10 ^ 41 < 2 ^ 200 by decide))) (by decide)
theorem Nice.str {z : Str} (h : ∀ c ∈ z.cps.toList, c < 128) : Nice (.str z) := by
  refine ⟨?_, rfl, ?_, rfl⟩
  · rw [PyData.leavesShort, List.all_eq_true]
    intro c hc
    have := h c hc
    rw [decide_eq_true_iff]
    exact Nat.lt_trans this (by decide)
  · rw [PyData.canLay0]
    unfold PyData.strOk
    rw [Array.all_eq_true_iff_forall_mem]
    intro x hx
    have := h x (by simpa using hx)
    rw [decide_eq_true_eq]
    omega
theorem word_low {z : Str} (h : wordB z = true) : z.length ≤ 12 ∧ ∀ c ∈ z.cps.toList, c < 128 := by
  unfold wordB at h
  simp only [Bool.and_eq_true, decide_eq_true_eq, List.all_eq_true] at h
  refine ⟨h.2.1, fun c hc => ?_⟩
  have := h.2.2 c hc
  unfold signB at this
  rw [Bool.and_eq_true, decide_eq_true_eq, decide_eq_true_eq] at this
  omega
/-- a good leaf, a good node -/
def GLf (l : Lf) : Prop := ∀ z i, l = some (z, i) → wordB z = true ∧ 0 ≤ i ∧ i ≤ maxI
def GNd (n : Nd) : Prop := n.1.1 ≤ 8 ∧ 1 ≤ n.1.1 ∧ n.1.2 < 128 ∧ 0 ≤ n.2.1 ∧ n.2.1 ≤ maxI ∧ n.2.2.length ≤ 256 ∧ ∀ j ∈ n.2.2, j < 256
theorem nice_lf {l : Lf} (h : GLf l) : Nice (dLf l) := by
  cases l with
  | none => exact .non
  | some p =>
    obtain ⟨z, i⟩ := p
    obtain ⟨h1, h2, h3⟩ := h z i rfl
    have h3' : i ≤ 10 ^ 40 := h3
    exact .tup (.cons (.str (word_low h1).2) (.cons (.int (by omega)) .nil))
theorem nice_nd {n : Nd} (h : GNd n) : Nice (dNd n) := by
  obtain ⟨h1, h2, h3, h4, h5, _, h6⟩ := h
  have h5' : n.2.1 ≤ 10 ^ 40 := h5
  exact .tup (.cons (.tup (.cons (.int (by omega)) (.cons (.int (by omega)) .nil))) (.cons (.int (by omega)) (.cons (.tup (.map fun j hj => .int (by have := h6 j hj; omega))) .nil)))
theorem bulk_map {α : Type} {f : α → PyData} {c : Nat} : ∀ {xs : List α}, (∀ x ∈ xs, (f x).bulk + 1 ≤ c) → PyData.bulkAll (xs.map f) ≤ c * xs.length
  | [], _ => by simp [PyData.bulkAll]
  | x :: r, h => by
    have h1 := h x List.mem_cons_self
    have h2 := bulk_map (f := f) (c := c) (xs := r) fun y hy => h y (List.mem_cons_of_mem _ hy)
    rw [List.map_cons, PyData.bulkAll, List.length_cons, Nat.mul_add]
    omega
theorem bulk_lf {l : Lf} (h : GLf l) : (dLf l).bulk + 1 ≤ 16 := by
  cases l with
  | none => show 0 + 1 ≤ 16; decide
  | some p =>
    obtain ⟨z, i⟩ := p
    have h1 := (word_low (h z i rfl).1).1
    have e : z.cps.size ≤ 12 := h1
    show PyData.bulk (.tuple [.str z, .int i]) + 1 ≤ 16
    simp only [PyData.bulk, PyData.bulkAll]
    omega
theorem bulk_nd {n : Nd} (h : GNd n) : (dNd n).bulk + 1 ≤ 262 := by
  have h1 := h.2.2.2.2.2.1
  have h2 : PyData.bulkAll (n.2.2.map fun (j : Nat) => PyData.int j) ≤ 1 * n.2.2.length := bulk_map fun j _ => by simp [PyData.bulk]
  unfold dNd dNats
  simp only [PyData.bulk, PyData.bulkAll]
  omega
theorem short_tree {ds : List PyData} {ls : List Lf} {ns : List Nd} (hd : ∀ d ∈ ds, d = .tuple [] → True) (hl : ∀ l ∈ ls, GLf l) (hn : ∀ n ∈ ns, GNd n) (l1 : ls.length ≤ 256) (n1 : ns.length ≤ 1152) : (dLvs ls).bulk + (dNds ns).bulk ≤ 306000 := by
  have h1 : (dLvs ls).bulk ≤ 16 * ls.length := by
    unfold dLvs
    rw [PyData.bulk]
    exact bulk_map fun l hm => bulk_lf (hl l hm)
  have h2 : (dNds ns).bulk ≤ 262 * ns.length := by
    unfold dNds
    rw [PyData.bulk]
    exact bulk_map fun l hm => bulk_nd (hn l hm)
  omega
theorem fits_of {d : PyData} (n : Nice d) (h : d.bulk ≤ 306100) : d.shown.length ≤ sizeLine := by
  have h1 := PyData.shown_le_bulk 42 (by decide) d n.ls
  have h2 : (42 + 2) * d.bulk ≤ 44 * 306100 := Nat.mul_le_mul_left 44 h
  rw [sizeLine_eq]
  omega
end L2.My
end
section
set_option Elab.async false
set_option linter.all false
set_option maxRecDepth 100000
set_option maxHeartbeats 4000000
/-! What passed the judges is a tree; trees as they are drawn pass them. -/
namespace L2.My
open PySem PySem.Spec PyProof.Rows
theorem asc_tail {α : Type} {lt : α → α → Bool} {x : α} {r : List α} (h : ascBy lt (x :: r) = true) : ascBy lt r = true := by
  cases r with
  | nil => rfl
  | cons y r => exact (Bool.and_eq_true_iff.mp (show (lt x y && ascBy lt (y :: r)) = true from h)).2
theorem asc_gt : ∀ {r : List Int} {x : Int}, ascBy ltI (x :: r) = true → ∀ z ∈ r, x < z
  | [], _, _, z, hz => absurd hz (by simp)
  | y :: r, x, h, z, hz => by
    obtain ⟨h1, h2⟩ := Bool.and_eq_true_iff.mp (show (ltI x y && ascBy ltI (y :: r)) = true from h)
    have hxy : x < y := of_decide_eq_true h1
    rcases List.mem_cons.mp hz with e | e
    · rw [e]; exact hxy
    · have := asc_gt h2 z e
      omega
theorem asc_len {N : Int} : ∀ {l : List Int} {lo : Int}, ascBy ltI l = true → (∀ x ∈ l, lo ≤ x ∧ x < N) → lo ≤ N → (l.length : Int) ≤ N - lo
  | [], lo, _, _, h => by simp; omega
  | x :: r, lo, h, hb, _ => by
    have hx := hb x List.mem_cons_self
    have ih := asc_len (l := r) (lo := x + 1) (asc_tail h) (fun z hz => ⟨by have := asc_gt h z hz; omega, (hb z (List.mem_cons_of_mem _ hz)).2⟩) (by omega)
    rw [List.length_cons]
    push_cast
    omega
theorem asc_map {α β : Type} {lt : α → α → Bool} {lt2 : β → β → Bool} {f : α → β} : ∀ {l : List α}, (∀ x ∈ l, ∀ y ∈ l, lt x y = true → lt2 (f x) (f y) = true) → ascBy lt l = true → ascBy lt2 (l.map f) = true
  | [], _, _ => rfl
  | [x], _, _ => rfl
  | x :: y :: r, hf, h => by
    obtain ⟨h1, h2⟩ := Bool.and_eq_true_iff.mp (show (lt x y && ascBy lt (y :: r)) = true from h)
    have ih := asc_map (lt := lt) (lt2 := lt2) (f := f) (l := y :: r) (fun a ha b hb => hf a (List.mem_cons_of_mem _ ha) b (List.mem_cons_of_mem _ hb)) h2
    show (lt2 (f x) (f y) && ascBy lt2 ((y :: r).map f)) = true
    rw [hf x List.mem_cons_self y (List.mem_cons_of_mem _ List.mem_cons_self) h1, ih]
    rfl
def codeI : List Int → Int
  | [a, b] => a * 128 + b
  | _ => 0
theorem code_lt {a b c d : Int} (h1 : 0 ≤ b) (h2 : b < 128) (h3 : 0 ≤ d) (h4 : d < 128) (h : HT.lexLt [a, b] [c, d] = true) : a * 128 + b < c * 128 + d := by
  rw [HT.lexLt_cons] at h
  by_cases e : a = c
  · rw [if_pos e, HT.lexLt_cons] at h
    by_cases e2 : b = d
    · rw [if_pos e2] at h
      exact absurd (show HT.lexLt [] [] = true from h) (by decide)
    · rw [if_neg e2, decide_eq_true_eq] at h
      omega
  · rw [if_neg e, decide_eq_true_eq] at h
    omega
theorem paired_map {α β : Type} {R : α → β → Prop} {f : α → β} : ∀ {xs : List α}, (∀ x ∈ xs, R x (f x)) → Paired R xs (xs.map f)
  | [], _ => .nil
  | x :: r, h => .cons (h x List.mem_cons_self) (paired_map fun y hy => h y (List.mem_cons_of_mem _ hy))
def lfD (H : Hp) (v : V) : Lf := match tupOf H v with
  | some [.str z, .int i] => some (z, i)
  | _ => none
def rowD (H : Hp) (v : V) : Nd := match tupOf H v with
  | some [n, l, c] => ((levV H n, atV H n), (intV l, ((tupOf H c).getD []).map iV))
  | _ => ((0, 0), (0, []))
theorem good_leaf {b : Addr} {H : Hp} {v : V} (t : Thg b H v) (e : memB H v = true) : LfAt H v (lfD H v) ∧ GLf (lfD H v) := by
  obtain ⟨y, ey⟩ := mem_name e
  obtain ⟨a, rfl, ha, _, q⟩ := tupOf_sub t ey
  have e2 := e
  rw [memB_at ey, Bool.and_eq_true] at e2
  cases y with
  | int i =>
    have ed : lfD H (.ref a) = some (nameV H (.ref a), i) := by unfold lfD; rw [ey]
    rw [ed]
    have hi : 0 ≤ i := of_decide_eq_true (show decide (0 ≤ i) = true from e2.2)
    refine ⟨⟨a, rfl, ha⟩, fun z j ej => ?_⟩
    cases ej
    exact ⟨e2.1, hi, (q (.int i) (by simp)).le⟩
  | _ => exact absurd e2.2 Bool.false_ne_true
theorem good_leaves {b : Addr} {H : Hp} {h : Nat} {v : V} (t : Thg b H v) (e : leavesB H h v = true) : ∃ la vs ls, v = .ref la ∧ tupOf H v = some vs ∧ vs.length = 2 ^ h ∧ LvsAt H la ls ∧ ls.length = 2 ^ h ∧ ∀ l ∈ ls, GLf l := by
  obtain ⟨vs, ev⟩ := leavesB_tup e
  obtain ⟨la, rfl, hla, _, q⟩ := tupOf_sub t ev
  rw [leavesB_at ev, Bool.and_eq_true, Bool.and_eq_true, decide_eq_true_eq] at e
  have each : ∀ x ∈ vs, LfAt H x (lfD H x) ∧ GLf (lfD H x) := fun x hx => by
    by_cases hn : notNon x = true
    · exact good_leaf (q x hx) (List.all_eq_true.mp e.2.1 x (List.mem_filter.mpr ⟨hx, hn⟩))
    · cases x with
      | non => exact ⟨rfl, fun z i h => by cases h⟩
      | _ => exact absurd rfl hn
  refine ⟨la, vs, vs.map (lfD H), rfl, ev, e.1, ⟨vs, hla, paired_map fun x hx => (each x hx).1⟩, by rw [List.length_map]; exact e.1, fun l hl => ?_⟩
  obtain ⟨x, hx, rfl⟩ := List.mem_map.mp hl
  exact (each x hx).2
theorem nats_of {n : Int} : ∀ {xs : List V}, xs.all (belowV n) = true → xs = nN (xs.map iV)
  | [], _ => rfl
  | x :: r, h => by
    rw [List.all_cons, Bool.and_eq_true] at h
    obtain ⟨h1, _, _⟩ := below_int h.1
    show x :: r = V.int (iV x : Nat) :: nN (r.map iV)
    rw [← nats_of h.2, ← h1]
theorem pow_le7 {h l : Nat} (hh : h ≤ 8) (hl : l ≠ 0) : (2 : Int) ^ (h - l) ≤ 128 := by
  have h1 : 2 ^ (h - l) ≤ 2 ^ 7 := Nat.pow_le_pow_right (by decide) (by omega)
  have h2 : ((2 ^ (h - l) : Nat) : Int) ≤ ((2 ^ 7 : Nat) : Int) := by exact_mod_cast h1
  push_cast at h2
  exact h2
theorem good_row {b : Addr} {H : Hp} {h : Nat} {lv : List V} {v : V} (hh : h ≤ 8) (hl : lv.length ≤ 256) (t : Thg b H v) (e : keptB H h lv v = true) : NdAt H v (rowD H v) ∧ GNd (rowD H v) ∧ rowI H v = [((rowD H v).1.1 : Int), ((rowD H v).1.2 : Int)] := by
  obtain ⟨a, na, l, c, rfl, ha, ea, e1, e2, e3, e4, tn, tl, tc, er⟩ := kept_of t e
  obtain ⟨na', rfl', hna, ena, hlev, hat, hni⟩ := node_of tn e1
  cases rfl'
  have ed : rowD H (.ref a) = ((levV H (.ref na), atV H (.ref na)), (intV l, ((tupOf H c).getD []).map iV)) := by unfold rowD; rw [ea]
  rw [ed, er, hni]
  cases l with
  | int i =>
    have hi : 0 ≤ i := of_decide_eq_true (show decide (0 ≤ i) = true from e3)
    cases ec : tupOf H c with
    | none => rw [asideB_no ec] at e4; cases e4
    | some xs =>
      obtain ⟨ca, rfl, hca, _, qc⟩ := tupOf_sub tc ec
      rw [asideB_at ec, Bool.and_eq_true, Bool.and_eq_true] at e4
      obtain ⟨f1, f2, _⟩ := e4
      have bl : ∀ x ∈ xs, iV x < 256 := fun x hx => by
        obtain ⟨_, z, _⟩ := below_int (List.all_eq_true.mp f1 x hx)
        omega
      have hlen : ((xs.map intV).length : Int) ≤ 256 - 0 := asc_len f2 (fun x hx => by
        obtain ⟨y, hy, rfl⟩ := List.mem_map.mp hx
        obtain ⟨_, z1, z2⟩ := below_int (List.all_eq_true.mp f1 y hy)
        omega) (by decide)
      rw [List.length_map] at hlen
      rw [Option.getD_some]
      have h7 := pow_le7 hh e2
      refine ⟨⟨a, na, ca, rfl, ha, hna, by rw [hca, ← nats_of f1]⟩, ⟨by show levV H (.ref na) ≤ 8; omega, by show 1 ≤ levV H (.ref na); omega, by show atV H (.ref na) < 128; omega, hi, tl.le, by rw [List.length_map]; omega, fun j hj => ?_⟩, rfl⟩
      obtain ⟨x, hx, rfl⟩ := List.mem_map.mp hj
      exact bl x hx
  | _ => exact absurd e3 Bool.false_ne_true
theorem good_nodes {b : Addr} {H : Hp} {h : Nat} {lv : List V} {v : V} (hh : h ≤ 8) (hl : lv.length ≤ 256) (t : Thg b H v) (e : nodesB H h lv v = true) : ∃ na ns, v = .ref na ∧ NdsAt H na ns ∧ ns.length ≤ 1152 ∧ ∀ n ∈ ns, GNd n := by
  cases ev : tupOf H v with
  | none => rw [nodesB_no ev] at e; cases e
  | some xs =>
    obtain ⟨na, rfl, hna, _, q⟩ := tupOf_sub t ev
    rw [nodesB_at ev, Bool.and_eq_true] at e
    obtain ⟨e1, e2⟩ := e
    have each := fun x hx => good_row hh hl (q x hx) (List.all_eq_true.mp e1 x hx)
    refine ⟨na, xs.map (rowD H), rfl, ⟨xs, hna, paired_map fun x hx => (each x hx).1⟩, ?_, fun n hn => ?_⟩
    · have a1 : ascBy ltI ((xs.map (rowI H)).map codeI) = true := asc_map (lt := HT.lexLt) (fun x hx y hy hxy => by
        obtain ⟨u, hu, rfl⟩ := List.mem_map.mp hx
        obtain ⟨w, hw, rfl⟩ := List.mem_map.mp hy
        obtain ⟨_, g1, r1⟩ := each u hu
        obtain ⟨_, g2, r2⟩ := each w hw
        rw [r1, r2] at hxy ⊢
        have k1 := g1.2.2.1
        have k2 := g2.2.2.1
        exact decide_eq_true (code_lt (by omega) (by omega) (by omega) (by omega) hxy)) e2
      have a2 := asc_len (N := 1152) (lo := 0) a1 (fun x hx => by
        rw [List.map_map] at hx
        obtain ⟨u, hu, rfl⟩ := List.mem_map.mp hx
        obtain ⟨_, g1, r1⟩ := each u hu
        show 0 ≤ codeI (rowI H u) ∧ codeI (rowI H u) < 1152
        rw [r1]
        have k1 := g1.1
        have k2 := g1.2.2.1
        show 0 ≤ ((rowD H u).1.1 : Int) * 128 + ((rowD H u).1.2 : Int) ∧ ((rowD H u).1.1 : Int) * 128 + ((rowD H u).1.2 : Int) < 1152
        omega) (by decide)
      rw [List.length_map, List.length_map] at a2
      rw [List.length_map]
      omega
    · obtain ⟨x, hx, rfl⟩ := List.mem_map.mp hn
      exact (each x hx).2.1
/-- what is told of a good tree -/
structure GTr (hn : Nat) (ls : List Lf) (ns : List Nd) : Prop where
  h8 : hn ≤ 8
  ll : ls.length ≤ 256
  gl : ∀ l ∈ ls, GLf l
  nl : ns.length ≤ 1152
  gn : ∀ n ∈ ns, GNd n
theorem good_tree {b : Addr} {H : Hp} {h l n : V} (tl : Thg b H l) (tn : Thg b H n) (e : badT H h l n = none) : ∃ hn la na ls ns, h = .int (hn : Nat) ∧ l = .ref la ∧ n = .ref na ∧ LvsAt H la ls ∧ NdsAt H na ns ∧ GTr hn ls ns := by
  unfold badT at e
  split at e
  · rename_i hb
    split at e
    · rename_i hl
      split at e
      · rename_i hnn
        obtain ⟨b1, b2, _⟩ := below_int hb
        have h8 : iV h ≤ 8 := by omega
        obtain ⟨la, vs, ls, rfl, ev, lv, hL, ll, gl⟩ := good_leaves tl hl
        have l256 : 2 ^ iV h ≤ 256 := Nat.le_trans (Nat.pow_le_pow_right (by decide) h8) (by decide)
        rw [ev, Option.getD_some] at hnn
        obtain ⟨na, ns, rfl, hN, nl, gn⟩ := good_nodes h8 (by omega) tn hnn
        exact ⟨iV h, la, na, ls, ns, b1, rfl, rfl, hL, hN, h8, by omega, gl, nl, gn⟩
      · cases e
    · cases e
  · cases e
end L2.My
end
section
set_option Elab.async false
set_option linter.all false
set_option maxRecDepth 100000
set_option maxHeartbeats 4000000
/-! Expressions that make things, as k50 has them; over the box. -/
namespace L2.My
open PySem PySem.Spec PyProof.Rows
def NoTup (H : Hp) (b : Addr) : Prop := ∀ xs, H b ≠ some (.tup xs)
theorem NoTup.ne {H : Hp} {a b : Addr} {xs : List V} (h : NoTup H b) (e : H a = some (.tup xs)) : a ≠ b := fun z => h xs (z ▸ e)
theorem BoxAt.nt {H : Hp} {b g : Addr} (h : BoxAt H b g) : NoTup H b := fun xs e => by
  obtain ⟨_, _, _, _, _, _, h1, _⟩ := h
  rw [h1] at e; cases e
def Stb (b : Addr) (P : Hp → Prop) : Prop := ∀ H H', P H → BL [b] H H' → P H'
def GT (b g : Addr) (P : Hp → Prop) (σ : St) (te : TE) : Prop := ∀ H (Q : VK), BoxAt H b g → P H → (∀ H' v, BL [b] H H' → BoxAt H' b g → Thg b H' v → Q v H') → te σ H Q
def GA (b g : Addr) (P : Hp → Prop) (σ : St) (n : Nat) (ta : TA) : Prop := ∀ H (Q : List V → Hp → Prop), BoxAt H b g → P H → (∀ H' vs, BL [b] H H' → BoxAt H' b g → (∀ v ∈ vs, Thg b H' v) → vs.length = n → Q vs H') → ta σ H Q
/-- a new list of things -/
def GL (b g : Addr) (P : Hp → Prop) (σ : St) (n : Nat) (te : TE) : Prop := ∀ H (Q : VK), BoxAt H b g → P H → (∀ H' l vs, BL [b] H H' → BoxAt H' b g → H l = none → H' l = some (.lst vs) → (∀ v ∈ vs, Thg b H' v) → vs.length = n → Q (.ref l) H') → te σ H Q
section
variable {b g : Addr} {P : Hp → Prop} {σ : St}
theorem ga_nil : GA b g P σ 0 tNil := fun H Q hB _ q => q H [] .refl hB (by simp) rfl
theorem ga_cons {n : Nat} {te : TE} {ta : TA} (st : Stb b P) (h1 : GT b g P σ te) (h2 : GA b g P σ n ta) : GA b g P σ (n + 1) (tCons te ta) := fun H Q hB p q =>
  h1 H _ hB p fun H1 v bl1 hB1 t1 => h2 H1 _ hB1 (st _ _ p bl1) fun H2 vs bl2 hB2 t2 hl => q H2 (v :: vs) (bl1.trans bl2) hB2 (fun u hu => by
    rcases List.mem_cons.mp hu with z | z
    · rw [z]; exact t1.bl bl2
    · exact t2 u z) (by rw [List.length_cons, hl])
theorem gt_tup {n : Nat} {ta : TA} (hn : n ≤ 1000) (h : GA b g P σ n ta) : GT b g P σ (tTup ta) := fun H Q hB p q =>
  h H _ hB p fun H1 vs bl1 hB1 t1 hl => ⟨Nat.le_trans (show vs.length ≤ 1000 by omega) (by decide), fun a na => by
    have s := same_upd (o := HO.tup vs) na
    exact q _ _ (bl1.trans (.same s)) (hB1.same s) (.tup upd_same (hB1.nb na) (by omega) fun v hv => (t1 v hv).same s)⟩
theorem gl_lst {n : Nat} {ta : TA} (hn : n ≤ 1000) (h : GA b g P σ n ta) : GL b g P σ n (tLst ta) := fun H Q hB p q =>
  h H _ hB p fun H1 vs bl1 hB1 t1 hl => ⟨Nat.le_trans (show vs.length ≤ 1000 by omega) (by decide), fun a na => by
    have s := same_upd (o := HO.lst vs) na
    exact q _ a vs (bl1.trans (.same s)) (hB1.same s) (bl1.nw na (by simpa using hB1.nb na)) upd_same (fun v hv => (t1 v hv).same s) hl⟩
theorem gl_gt {n : Nat} {te : TE} (h : GL b g P σ n te) : GT b g P σ te := fun H Q hB p q => h H Q hB p fun H1 l vs bl hB1 nl hl _ _ => q H1 _ bl hB1 (.lst hl (hB.nb nl))
theorem gt_lst {n : Nat} {ta : TA} (hn : n ≤ 1000) (h : GA b g P σ n ta) : GT b g P σ (tLst ta) := gl_gt (gl_lst hn h)
theorem gt_int (i : Int) (h : i ≤ maxI) : GT b g P σ (tC (.int i)) := fun H Q hB _ q => q H _ .refl hB (.int i h)
theorem gt_non : GT b g P σ (tC .non) := fun H Q hB _ q => q H _ .refl hB .non
theorem gt_bl (i : Bool) : GT b g P σ (tC (.bl i)) := fun H Q hB _ q => q H _ .refl hB (.boo i)
theorem gt_str (z : Str) (h : z.length ≤ 5000) : GT b g P σ (tC (.str z)) := fun H Q hB _ q => q H _ .refl hB (.str z h)
theorem gt_var {i : Nat} {v : V} (e : σ[i]? = some (some v)) (h : ∀ H, P H → Thg b H v) : GT b g P σ (tVar i) := fun H Q hB p q => ⟨v, e, q H _ .refl hB (h H p)⟩
end
section
variable {b g : Addr} {P : Hp → Prop} {σ : St}
theorem gt_dct : GT b g P σ tDNewK := fun H Q hB _ q p np => by
  have s := same_upd (o := HO.dK []) np
  exact q _ _ (.same s) (hB.same s) (.dct upd_same (hB.nb np))
theorem gt_neg : GT b g P σ (tUn (rU fun i => .int (-i)) (tC (.int 1))) := fun H Q hB _ q => ⟨_, rfl, q H _ .refl hB (.int _ (by decide))⟩
def GB (b g : Addr) (P : Hp → Prop) (σ : St) (n : Nat) (ta : TA) : Prop := ∀ H (Q : List V → Hp → Prop), BoxAt H b g → P H → (∀ H' vs, BL [b] H H' → BoxAt H' b g → (∀ v ∈ vs, Thg b H' v) → vs.length ≤ n → Q vs H') → ta σ H Q
theorem gb_nil {n : Nat} : GB b g P σ n tNil := fun H Q hB _ q => q H [] .refl hB (by simp) (Nat.zero_le _)
theorem gb_cons {n : Nat} {te : TE} {ta : TA} (st : Stb b P) (h1 : GT b g P σ te) (h2 : GB b g P σ n ta) : GB b g P σ (n + 1) (tCons te ta) := fun H Q hB p q =>
  h1 H _ hB p fun H1 v bl1 hB1 t1 => h2 H1 _ hB1 (st _ _ p bl1) fun H2 vs bl2 hB2 t2 hl => q H2 (v :: vs) (bl1.trans bl2) hB2 (fun u hu => by
    rcases List.mem_cons.mp hu with z | z
    · rw [z]; exact t1.bl bl2
    · exact t2 u z) (by rw [List.length_cons]; omega)
theorem gt_tupB {ta : TA} (h : GB b g P σ 900 ta) : GT b g P σ (tTup ta) := fun H Q hB p q =>
  h H _ hB p fun H1 vs bl1 hB1 t1 hl => ⟨Nat.le_trans (show vs.length ≤ 1000 by omega) (by decide), fun a na => by
    have s := same_upd (o := HO.tup vs) na
    exact q _ _ (bl1.trans (.same s)) (hB1.same s) (.tup upd_same (hB1.nb na) (by omega) fun v hv => (t1 v hv).same s)⟩
theorem gt_lstB {ta : TA} (h : GB b g P σ 900 ta) : GT b g P σ (tLst ta) := fun H Q hB p q =>
  h H _ hB p fun H1 vs bl1 hB1 t1 hl => ⟨Nat.le_trans (show vs.length ≤ 1000 by omega) (by decide), fun a na => by
    have s := same_upd (o := HO.lst vs) na
    exact q _ _ (bl1.trans (.same s)) (hB1.same s) (.lst upd_same (hB1.nb na))⟩
theorem gl_lst' {n : Nat} {ta : TA} (h : GA b g P σ n ta) (hn : n ≤ 1000) : GL b g P σ n (tLst ta) := gl_lst hn h
theorem tt (b : Addr) : Stb b fun _ => True := fun _ _ _ _ => trivial
end
theorem Thg.put {b l : Addr} {H : Hp} {v : V} {xs ys : List V} (h : Thg b H v) (hl : H l = some (.lst xs)) : Thg b (upd H l (.lst ys)) v := by
  have th : ∀ {v : V} {t : String}, ThT H v t → ThT (upd H l (.lst ys)) v t := fun {v t} h => by
    cases h with
    | non => exact .non
    | bl c => exact .bl c
    | int i => exact .int i
    | str x => exact .str x
    | @lst a zs h =>
      by_cases e : a = l
      · subst e; exact .lst upd_same
      · exact .lst (by rw [upd_ne e]; exact h)
    | @tup a zs h =>
      have e : a ≠ l := fun z => by rw [z, hl] at h; cases h
      exact .tup (by rw [upd_ne e]; exact h)
    | @dct a zs h =>
      have e : a ≠ l := fun z => by rw [z, hl] at h; cases h
      exact .dct (by rw [upd_ne e]; exact h)
  have s0 : ∀ {v : V}, Sh0 b H v → Sh0 b (upd H l (.lst ys)) v := fun {v} ⟨⟨t, h1⟩, h2⟩ => ⟨⟨t, th h1⟩, h2⟩
  intro n
  have := h n
  clear h
  induction n generalizing v with
  | zero => exact s0 this
  | succ n ih =>
    refine ⟨s0 this.1, fun a zs e ea => ?_⟩
    have ne : a ≠ l := fun z => by rw [z, upd_same] at ea; cases ea
    rw [upd_ne ne] at ea
    obtain ⟨q1, q2⟩ := this.2 a zs e ea
    exact ⟨q1, fun x hx => ih (q2 x hx)⟩
/-- an expression that makes a tuple of things -/
def GU (b g : Addr) (P : Hp → Prop) (σ : St) (n : Nat) (te : TE) : Prop := ∀ H (Q : VK), BoxAt H b g → P H → (∀ H' a vs, BL [b] H H' → BoxAt H' b g → H' a = some (.tup vs) → (∀ v ∈ vs, Thg b H' v) → vs.length ≤ n → Q (.ref a) H') → te σ H Q
section
variable {K : PySem.W.Frag} {b g : Addr} {P : Hp → Prop} {σ : St}
theorem gu_gt {n : Nat} {te : TE} (h : GU b g P σ n te) (hn : n ≤ 5000) : GT b g P σ te := fun H Q hB p q => h H _ hB p fun H1 a vs bl hB1 ha ht hl => q H1 _ bl hB1 (.tup ha (hB1.nt.ne ha) (by omega) ht)
theorem gu_mono {n m : Nat} {te : TE} (h : GU b g P σ n te) (hn : n ≤ m) : GU b g P σ m te := fun H Q hB p q => h H _ hB p fun H1 a vs bl hB1 ha ht hl => q H1 a vs bl hB1 ha ht (by omega)
theorem gu_var {i n : Nat} {a : Addr} {vs : List V} (e : σ[i]? = some (some (.ref a))) (h : ∀ H, P H → H a = some (.tup vs) ∧ ∀ v ∈ vs, Thg b H v) (hn : vs.length ≤ n) : GU b g P σ n (tVar i) := fun H Q hB p q => ⟨_, e, q H a vs .refl hB (h H p).1 (h H p).2 hn⟩
theorem gu_tup1 {te : TE} (h : GT b g P σ te) : GU b g P σ 1 (tTup (tCons te tNil)) := fun H Q hB p q => h H _ hB p fun H1 v bl hB1 tv => ⟨by show 1 ≤ sizeLine; decide, fun a na => by
  have s := same_upd (o := HO.tup [v]) na
  exact q _ a [v] (bl.trans (.same s)) (hB1.same s) upd_same (fun x hx => by rw [List.mem_singleton.mp hx]; exact tv.same s) (Nat.le_refl 1)⟩
theorem gu_cat {n m : Nat} {t1 t2 : TE} (st : Stb b P) (h1 : GU b g P σ n t1) (h2 : GU b g P σ m t2) (hnm : n + m ≤ 100000) : GU b g P σ (n + m) (tOp (rCatA K) t1 t2) := fun H Q hB p q =>
  h1 H _ hB p fun H1 a vs bl1 hB1 ha tv hl => h2 H1 _ hB1 (st _ _ p bl1) fun H2 c ws bl2 hB2 hc tw hm => by
    have ha2 := bl2 _ _ (by simpa using hB1.nt.ne ha) ha
    have tv2 : ∀ v ∈ vs, Thg b H2 v := fun v hv => (tv v hv).bl bl2
    refine ⟨a, c, vs, ws, rfl, rfl, .of ha2, .of hc, Nat.le_trans (show vs.length + ws.length ≤ 100000 by omega) (by decide), fun _ => q _ c ws (bl1.trans bl2) hB2 hc tw (by omega), fun _ _ => q _ a vs (bl1.trans bl2) hB2 ha2 tv2 (by omega), fun _ _ x nx => ?_⟩
    have s := same_upd (o := HO.tup (vs ++ ws)) nx
    refine q _ x (vs ++ ws) ((bl1.trans bl2).trans (.same s)) (hB2.same s) upd_same (fun v hv => ?_) (by rw [List.length_append]; omega)
    rcases List.mem_append.mp hv with z | z
    · exact (tv2 v z).same s
    · exact (tw v z).same s
theorem cut_mem {xs : List V} {lo hi : Option Int} {v : V} (h : v ∈ cutV xs lo hi) : v ∈ xs := List.mem_of_mem_drop (List.mem_of_mem_take h)
theorem cut_len {xs : List V} {lo hi : Option Int} : (cutV xs lo hi).length ≤ xs.length := by
  unfold cutV
  rw [List.length_take, List.length_drop]
  omega
theorem gu_slc {n : Nat} {te : TE} {lo hi : Option Int} (h : GU b g P σ n te) {tl th : TO} (hl : ∀ H (Q : Option Int → Hp → Prop), Q lo H → tl σ H Q) (hh : ∀ H (Q : Option Int → Hp → Prop), Q hi H → th σ H Q) : GU b g P σ n (tSl (rSlA K) te tl th) := fun H Q hB p q =>
  h H _ hB p fun H1 a vs bl1 hB1 ha tv hlen => hl _ _ (hh _ _ ⟨a, vs, rfl, .of ha, fun _ => q _ a vs bl1 hB1 ha tv hlen, fun _ x nx => by
    have s := same_upd (o := HO.tup (cutV vs lo hi)) nx
    exact q _ x _ (bl1.trans (.same s)) (hB1.same s) upd_same (fun v hv => (tv v (cut_mem hv)).same s) (Nat.le_trans cut_len hlen)⟩)
theorem to_no (H : Hp) (Q : Option Int → Hp → Prop) (q : Q none H) : tNoPart σ H Q := q
theorem to_var {i : Nat} {n : Int} (e : σ[i]? = some (some (.int n))) (H : Hp) (Q : Option Int → Hp → Prop) (q : Q (some n) H) : tPart (tVar i) σ H Q := ⟨_, e, n, rfl, q⟩
theorem gu_ix {i n : Nat} {j : Int} {p0 a : Addr} {xs vs : List V} (e : σ[i]? = some (some (.ref p0))) (h : ∀ H, P H → H p0 = some (.tup xs) ∧ H a = some (.tup vs) ∧ ∀ v ∈ vs, Thg b H v) (hj : atI xs j = some (.ref a)) (hn : vs.length ≤ n) : GU b g P σ n (tOp (rIxT K) (tVar i) (tC (.int j))) := fun H Q hB p q =>
  ⟨_, e, p0, xs, j, _, rfl, rfl, .of (h H p).1, hj, q H a vs .refl hB (h H p).2.1 (h H p).2.2 hn⟩
theorem gu_ixl {i k n : Nat} {j : Int} {p0 a : Addr} {xs vs : List V} (e : σ[i]? = some (some (.ref p0))) (ek : σ[k]? = some (some (.int j))) (h : ∀ H, P H → H p0 = some (.lst xs) ∧ H a = some (.tup vs) ∧ ∀ v ∈ vs, Thg b H v) (hj : atI xs j = some (.ref a)) (hn : vs.length ≤ n) : GU b g P σ n (tOp (rIxL K) (tVar i) (tVar k)) := fun H Q hB p q =>
  ⟨_, e, _, ek, p0, xs, j, _, rfl, rfl, .of (h H p).1, hj, q H a vs .refl hB (h H p).2.1 (h H p).2.2 hn⟩
theorem gt_listof {n : Nat} {te : TE} (h : GU b g P σ n te) : GT b g P σ (tCB (fun xs H Q => ∃ p ys, xs = [V.ref p] ∧ (SqL K H p ys ∨ SqT K H p ys) ∧ ∀ l, H l = none → Q (V.ref l) (upd H l (HO.lst ys))) (tCons te tNil)) := fun H Q hB p q =>
  h H _ hB p fun H1 a vs bl hB1 ha tv hl => ⟨a, vs, rfl, .inr (.of ha), fun l nl => by
    have s := same_upd (o := HO.lst vs) nl
    exact q _ _ (bl.trans (.same s)) (hB1.same s) (.lst upd_same (hB1.nb nl))⟩
end
theorem stb_bl (b : Addr) (H0 : Hp) : Stb b fun G => BL [b] H0 G := fun _ _ h s => h.trans s
theorem ixN_nat {n j : Nat} (h : j < n) : ixN n (j : Int) = some j := by
  unfold ixN
  rw [if_pos (by omega), if_pos (by omega)]
  simp
end L2.My
end
section
set_option Elab.async false
set_option linter.all false
set_option maxRecDepth 100000
set_option maxHeartbeats 4000000
/-! The law's small ones: name, lock, beneath, int, named, odd, set. -/
namespace L2.My
open PySem PySem.Spec PyProof.Rows
open TL (joinL tl_join tl join_eq)
abbrev sName : Stmt := top 47
abbrev sLock : Stmt := top 48
abbrev sBen : Stmt := top 49
abbrev sLint : Stmt := top 51
abbrev sNamd : Stmt := top 52
theorem join_all : ∀ (ys : List Str), (∀ y ∈ ys, y.length = 1 ∧ y.cps.toList.all signB = true) → (Txt.join "" ys).length = ys.length ∧ (Txt.join "" ys).cps.toList.all signB = true := fun ys h => by
  have e : (Txt.join "" ys).cps.toList = joinL (tl "") (ys.map tl) := by
    rw [join_eq]
    exact tl_join "" ys
  have e2 : tl "" = [] := rfl
  have key : ∀ (zs : List Str), (∀ y ∈ zs, y.length = 1 ∧ y.cps.toList.all signB = true) → (joinL [] (zs.map tl)).length = zs.length ∧ (joinL [] (zs.map tl)).all signB = true := by
    intro zs
    induction zs with
    | nil => intro _; exact ⟨rfl, rfl⟩
    | cons x r ih =>
      intro h
      obtain ⟨h1, h2⟩ := h x List.mem_cons_self
      obtain ⟨i1, i2⟩ := ih fun y hy => h y (List.mem_cons_of_mem _ hy)
      have hx : (tl x).length = 1 := by
        have : x.cps.toList.length = 1 := by rw [Array.length_toList]; exact h1
        exact this
      cases r with
      | nil => exact ⟨hx, h2⟩
      | cons y r =>
        show (tl x ++ ([] ++ joinL [] ((y :: r).map tl))).length = _ ∧ (tl x ++ ([] ++ joinL [] ((y :: r).map tl))).all signB = true
        rw [List.nil_append, List.length_append, List.all_append, i1, i2, hx, Bool.and_true]
        exact ⟨by simp only [List.length_cons]; omega, h2⟩
  obtain ⟨k1, k2⟩ := key ys h
  rw [e2] at e
  refine ⟨?_, by rw [e]; exact k2⟩
  have : (Txt.join "" ys).cps.toList.length = ys.length := by rw [e]; exact k1
  rw [Array.length_toList] at this
  exact this
def betw (lo hi : Int) : V → Bool
  | .int i => decide (lo ≤ i ∧ i ≤ hi)
  | _ => false
def spName : Sp := fun vs H Q _ => ∃ (b g : Addr), vs = [.ref b] ∧ BoxAt H b g ∧ ∀ H' z, BL [b] H H' → BoxAt H' b g → wordB z = true → Q (.str z) H'
def spLock : Sp := fun vs H Q _ => ∃ (b g : Addr), vs = [.ref b] ∧ BoxAt H b g ∧ ∀ H' r, BL [b] H H' → BoxAt H' b g → 0 ≤ r → r ≤ maxI → Q (.int r) H'
def benL (lev idx : Nat) : List Nat := (List.range (2 ^ lev)).map fun k => idx * 2 ^ lev + k
def spBen : Sp := fun vs H Q _ => ∃ (a : Addr) (lev idx : Nat), vs = [.ref a] ∧ H a = some (.tup [.int (lev : Nat), .int (idx : Nat)]) ∧ lev ≤ 8 ∧ idx ≤ 1000 ∧ ∀ H' l, Same H H' → H l = none → H' l = some (.lst (nN (benL lev idx))) → Q (.ref l) H'
def spLint : Sp := fun vs H Q _ => ∃ (b : Addr) (v : V) (lo hi : Int), vs = [v, .int lo, .int hi] ∧ Thg b H v ∧ Q (.bl (betw lo hi v)) H
def spOdd : Sp := fun vs H Q _ => ∃ (b g : Addr), vs = [.ref b] ∧ BoxAt H b g ∧ ∀ H' v, BL [b] H H' → BoxAt H' b g → Thg b H' v → Q v H'
def spSet : Sp := fun vs H Q _ => ∃ (a : Addr) (xs : List V) (n : Nat) (v : V), vs = [.ref a, .int (n : Nat), v] ∧ H a = some (.tup xs) ∧ n < xs.length ∧ xs.length ≤ 5000 ∧ ∀ H' c, Same H H' → H' c = some (.tup (xs.set n v)) → Q (.ref c) H'
theorem betw_cases {H : Hp} {v : V} {t : String} {lo hi : Int} (h : ThT H v t) : (∃ i, v = .int i ∧ t = "int") ∨ (∃ c, v = .bl c ∧ t = "bool") ∨ (betw lo hi v = false ∧ instT t "int" = false) := by
  cases h with
  | int i => exact .inl ⟨i, rfl, rfl⟩
  | bl c => exact .inr (.inl ⟨c, rfl, rfl⟩)
  | _ => exact .inr (.inr ⟨rfl, by decide⟩)
theorem catA_ref {K : PySem.W.Frag} {H : Hp} {a b : Addr} {xs ys : List V} {Q : VK} (ha : H a = some (.tup xs)) (hb : H b = some (.tup ys)) (hl : xs.length + ys.length ≤ sizeLine) (h : ∀ c G, Same H G → G c = some (.tup (xs ++ ys)) → Q (.ref c) G) : rCatA K (.ref a) (.ref b) H Q :=
  ⟨a, b, xs, ys, rfl, rfl, .of ha, .of hb, hl, fun e => h b H (Same.refl _) (by rw [e]; exact hb), fun _ e => h a H (Same.refl _) (by rw [e, List.append_nil]; exact ha), fun _ _ x nx => h x _ (same_upd nx) upd_same⟩
theorem slc_ref {K : PySem.W.Frag} {H : Hp} {a : Addr} {xs : List V} {lo hi : Option Int} {Q : VK} (ha : H a = some (.tup xs)) (h : ∀ c G, Same H G → G c = some (.tup (cutV xs lo hi)) → Q (.ref c) G) : rSlA K (.ref a) lo hi H Q := by
  refine ⟨a, xs, rfl, .of ha, fun w => h a H (Same.refl _) ?_, fun _ x nx => h x _ (same_upd nx) upd_same⟩
  rw [ha]
  unfold cutV
  rw [w.1, w.2, List.drop_zero, Nat.sub_zero, List.take_length]
/-- a comprehension whose calls touch the box alone -/
theorem lcB {J : It} {n : Nat} {G : Hp → Prop} {Y : Nat → Hp → V → Hp → Prop} {b gg D : Addr} {H1 : Hp} {Qd : Hp → Prop} {σ : St} {g : TG} {tt : TT} {te : TE} {vs : List Nat} (w : Walk J n G Y) (R : Nat → List V → Prop) (hn : n < sizeLine) (hD : H1 D = none) (hB : BoxAt H1 b gg)
    (hG : ∀ H', BL [b] H1 H' → BoxAt H' b gg → G H') (h0 : R 0 [])
    (hs : ∀ i x H H' (Q' : VK) (N' : Hp → Prop) acc, i < n → BL [b] H1 H → BoxAt H b gg → R i acc → Y i H x H' → (∀ v H4, BL [b] H H4 → BoxAt H4 b gg → R (i + 1) (acc ++ [v]) → Q' v H4) → (R (i + 1) acc → ∀ H4, BL [b] H H4 → BoxAt H4 b gg → N' H4) →
      g x (wipe σ vs) H' fun σ2 H2 => wipe σ2 vs = wipe σ vs ∧ tt σ2 H2 fun c H3 => if c = true then te σ2 H3 Q' else N' H3)
    (hd : ∀ H acc, BL [b] H1 H → BoxAt H b gg → H D = some (.lst acc) → R n acc → acc.length ≤ n → Qd H) : CompOut J g tt te vs σ D Qd H1 := by
  have nb := hB.nb hD
  have ng := hB.ng hD
  refine lc_it w (fun i H => BL [b] H1 H ∧ BoxAt H b gg ∧ ∃ acc, H D = some (.lst acc) ∧ R i acc ∧ acc.length ≤ i) ⟨.same (same_upd hD), hB.same (same_upd hD), [], upd_same, h0, Nat.le_refl _⟩ (fun i H _ h => hG H h.1 h.2.1) ?_ (fun H ⟨h1, h2, acc, h3, h4, h5⟩ => hd H acc h1 h2 h3 h4 h5)
  rintro i x H H' hi ⟨bl, hb, acc, hacc, hR, hlen⟩ y
  refine hs i x H H' _ _ acc hi bl hb hR y (fun v H4 bl4 hb4 hR4 => ?_) (fun hR4 H4 bl4 hb4 => ⟨bl.trans bl4, hb4, acc, bl4 _ _ (by simpa using nb) hacc, hR4, by omega⟩)
  exact ⟨acc, bl4 _ _ (by simpa using nb) hacc, by omega, BL.put (bl.trans bl4) hD, hb4.put nb ng, acc ++ [v], upd_same, hR4, by rw [List.length_append, List.length_singleton]; omega⟩
theorem sum_ones : ∀ ys : List Str, (∀ y ∈ ys, y.length = 1) → (ys.map (·.length)).sum = ys.length
  | [], _ => rfl
  | y :: r, h => by
    rw [List.map_cons, List.sum_cons, h y List.mem_cons_self, sum_ones r fun z hz => h z (List.mem_cons_of_mem _ hz), List.length_cons, Nat.add_comm]
theorem letters : ("abcdefghijklmnopqrstuvwxyz" : Str).cps.toList = [97, 98, 99, 100, 101, 102, 103, 104, 105, 106, 107, 108, 109, 110, 111, 112, 113, 114, 115, 116, 117, 118, 119, 120, 121, 122] := by decide +kernel
theorem in_letters (c : Nat) : decide (c ∈ ("abcdefghijklmnopqrstuvwxyz" : Str).cps.toList) = signB c := by
  rw [letters]
  unfold signB
  rw [← Bool.decide_and]
  refine decide_eq_decide.mpr ?_
  simp only [List.mem_cons, List.not_mem_nil, or_false]
  omega
theorem letter_at {r : Int} (h0 : 0 ≤ r) (h1 : r < 26) : ∃ c, atI ("abcdefghijklmnopqrstuvwxyz" : Str).cps.toList r = some c ∧ signB c = true := by
  rw [letters]
  obtain ⟨j, rfl⟩ : ∃ j : Nat, r = j := ⟨r.toNat, by omega⟩
  have hj : j < 26 := by omega
  refine ⟨97 + j, ?_, ?_⟩
  · have : ∀ j : Fin 26, atI ([97, 98, 99, 100, 101, 102, 103, 104, 105, 106, 107, 108, 109, 110, 111, 112, 113, 114, 115, 116, 117, 118, 119, 120, 121, 122] : List Nat) ((j.1 : Nat) : Int) = some (97 + j.1) := by decide +kernel
    exact this ⟨j, hj⟩
  · unfold signB
    rw [decide_eq_true (by omega), decide_eq_true (by omega)]
    rfl
section
variable {P : Program} {w : World} {K : PySem.W.Frag} {mg : Str → Option Value} {base : Heap}
theorem scName : FnScope ["box", "many", "k"] ["box"] (defScope sName) := ⟨rfl, rfl, rfl, by decide +kernel, rfl, by decide +kernel, by decide +kernel⟩
theorem ok_name {f : Addr} {fd : FuncData} {k : Nat} (F : Fun K "_law_name" "_law_name" sName f fd) (T : Tx mg) (cD : Cal P w K mg base (k + 3) "_law_draw" ["box", "menu"] spDraw) : FnOk P w K mg base CX0 (k + 4) f fd ["box"] spName := by
  refine F.ok scName (fun vs H Q E h => ?_) (fun cdv A outer s H vs Q E hr h => ?_)
  · obtain ⟨b, g, rfl, _⟩ := h
    rfl
  · obtain ⟨b, g, rfl, hB, q⟩ := h
    refine ⟨_, (pss_cons (ps_set (i := 1) scName.nd rfl (Or.inl rfl) (pe_ifExp (pt_cmpR op_eq (pe_c cD hr (by omega) (by rfl) (pa_cons (pv 0) (pa_cons pe_int pa_nil))) pe_int (nomark _)) (pe_op op_add pe_int (pe_c cD hr (by omega) (by rfl) (pa_cons (pv 0) (pa_cons pe_int pa_nil)))) pe_int)) (pss_one (ps_ret (pe_join pe_str (pe_lc (own := [("k", 2)]) (g := gName 2) (te := tOp rIxS (tC (.str "abcdefghijklmnopqrstuvwxyz")) (tCall spDraw [] E0 (tCons (tVar 0) (tCons (tC (.int 26)) tNil)))) rfl scName.nd (pi_range1 (by rfl) T.range_ (pa_cons (pv 1) pa_nil)) (blkOk_by (N := ["box", "many", "k"]) (sc := defScope sName) (by decide +kernel)) (fun _ _ _ _ _ => pg_name (i := 2) scName.nd rfl (Or.inl rfl)) (fun _ _ _ _ _ => pts_nil) (fun _ _ _ _ _ => (pe_ix ix_str pe_str (pe_c cD hr (by omega) (by rfl) (pa_cons (pv 0) (pa_cons pe_int pa_nil))) (fun _ _ => rfl)))))))), ?_⟩
    refine seq_use (fun σ G => ∃ m : Int, σ = [some (.ref b), some (.int m), none] ∧ BL [b] H G ∧ BoxAt G b g ∧ 1 ≤ m ∧ m ≤ 12) ?_ (fun hrest => ?_)
    · rintro σ G ⟨m, rfl, bl, hBG, m1, m2⟩
      refine ⟨⟨"", rfl⟩, _, rfl, m, rfl, by omega, by omega, fun D nD => ?_⟩
      refine lcB (walk_range (lo := 0)) (fun i acc => ∃ ys : List Str, acc = ys.map V.str ∧ ys.length = i ∧ ∀ y ∈ ys, y.length = 1 ∧ y.cps.toList.all signB = true) (Nat.lt_of_le_of_lt (show m.toNat ≤ 12 by omega) (by decide)) nD hBG (fun _ _ _ => trivial) ⟨[], rfl, rfl, by simp⟩ ?_ ?_
      · rintro i x G1 G2 Q' N' acc hi bl1 hB1 ⟨ys, rfl, hlen, hys⟩ ⟨rfl, rfl⟩ hq _
        refine ⟨rfl, ?_⟩
        show tOp rIxS (tC (.str "abcdefghijklmnopqrstuvwxyz")) (tCall spDraw [] E0 (tCons (tVar 0) (tCons (tC (.int 26)) tNil))) _ _ _
        refine ⟨_, rfl, b, g, 26, rfl, hB1, by decide, by decide, fun G3 r bl3 hB3 r0 r1 => ?_⟩
        obtain ⟨c, hc, hs⟩ := letter_at r0 r1
        refine ⟨_, r, c, rfl, rfl, by decide +kernel, hc, hq _ G3 bl3 hB3 ⟨ys ++ [⟨#[c]⟩], by rw [List.map_append]; rfl, by rw [List.length_append, hlen]; rfl, fun y hy => ?_⟩⟩
        rcases List.mem_append.mp hy with z | z
        · exact hys y z
        · rw [List.mem_singleton.mp z]
          exact ⟨rfl, by show (signB c && true) = true; rw [hs]; rfl⟩
      · rintro G3 acc bl3 hB3 hD3 ⟨ys, rfl, hlen, hys⟩ _
        obtain ⟨j1, j2⟩ := join_all ys hys
        refine ⟨"", D, ys, rfl, rfl, .inl (.of hD3), ?_, q G3 _ (bl.trans bl3) hB3 ?_⟩
        · have e2 : ("" : Str).length = 0 := rfl
          rw [sum_ones ys fun y hy => (hys y hy).1, e2, Nat.mul_zero]
          omega
        · unfold wordB
          rw [j1, j2, decide_eq_true (by omega), decide_eq_true (by omega)]
          rfl
    · refine ⟨_, rfl, b, g, 3, rfl, hB, by decide, by decide, fun G1 r bl1 hB1 r0 r1 => ⟨rfl, _, rfl, ?_⟩⟩
      refine ite2 (fun _ => ?_) (fun _ => hrest _ _ ⟨1, rfl, bl1, hB1, by decide, by decide⟩)
      exact ⟨_, rfl, b, g, 12, rfl, hB1, by decide, by decide, fun G2 r2 bl2 hB2 r20 r21 => ⟨_, _, rfl, rfl, hrest _ _ ⟨_, rfl, bl1.trans bl2, hB2, by omega, by omega⟩⟩⟩
theorem scLock : FnScope ["box"] ["box"] (defScope sLock) := ⟨rfl, rfl, rfl, by decide +kernel, rfl, by decide +kernel, by decide +kernel⟩
theorem ok_lock {f : Addr} {fd : FuncData} {k : Nat} (F : Fun K "_law_lock" "_law_lock" sLock f fd) (T : Tx mg) (cD : Cal P w K mg base (k + 3) "_law_draw" ["box", "menu"] spDraw) : FnOk P w K mg base CX0 (k + 4) f fd ["box"] spLock := by
  refine F.ok scLock (fun vs H Q E h => ?_) (fun cdv A outer s H vs Q E hr h => ?_)
  · obtain ⟨b, g, rfl, _⟩ := h
    rfl
  · obtain ⟨b, g, rfl, hB, q⟩ := h
    refine ⟨_, (pss_one (ps_ret (pe_ifExp (pt_cmpR op_eq (pe_c cD hr (by omega) (by rfl) (pa_cons (pv 0) (pa_cons pe_int pa_nil))) pe_int (nomark _)) (pe_c cD hr (by omega) (by rfl) (pa_cons (pv 0) (pa_cons (pe_op op_pow pe_int pe_int) pa_nil))) (pe_c cD hr (by omega) (by rfl) (pa_cons (pv 0) (pa_cons pe_int pa_nil)))))), ?_⟩
    refine ⟨_, rfl, b, g, 9, rfl, hB, by decide, by decide, fun G1 r bl1 hB1 r0 r1 => ⟨rfl, _, rfl, ?_⟩⟩
    refine ite2 (fun _ => ?_) (fun _ => ?_)
    · refine ⟨_, rfl, _, _, rfl, rfl, ⟨by decide, by decide, by decide⟩, b, g, _, rfl, hB1, by decide, by decide, fun G2 r2 bl2 hB2 r20 r21 => q G2 r2 (bl1.trans bl2) hB2 r20 ?_⟩
      have e : (10 : Int) ^ (Int.toNat 30) ≤ maxI := by decide
      omega
    · refine ⟨_, rfl, b, g, 60, rfl, hB1, by decide, by decide, fun G2 r2 bl2 hB2 r20 r21 => q G2 r2 (bl1.trans bl2) hB2 r20 ?_⟩
      have e : (60 : Int) ≤ maxI := by decide
      omega
abbrev nBen : List Str := ["node", "level", "index", "first", "many", "k"]
theorem scBen : FnScope nBen ["node"] (defScope sBen) := ⟨rfl, rfl, rfl, by decide +kernel, rfl, by decide +kernel, by decide +kernel⟩
theorem ok_ben {f : Addr} {fd : FuncData} {k : Nat} (F : Fun K "_law_beneath" "_law_beneath" sBen f fd) (T : Tx mg) : FnOk P w K mg base CX0 (k + 1) f fd ["node"] spBen := by
  refine F.ok scBen (fun vs H Q E h => ?_) (fun cdv A outer s H vs Q E hr h => ?_)
  · obtain ⟨a, lev, idx, rfl, _⟩ := h
    rfl
  · obtain ⟨a, lev, idx, rfl, ha, hl, hx, q⟩ := h
    refine ⟨_, (pss_cons (ps_asg (pv 0) (pg_tup rfl (pgs_cons (pg_name (i := 1) scBen.nd rfl (Or.inl rfl)) (pgs_cons (pg_name (i := 2) scBen.nd rfl (Or.inl rfl)) pgs_nil)))) (pss_cons (ps_asg (pe_tup (pa_cons (pv 2) (pa_cons pe_int pa_nil))) (pg_tup rfl (pgs_cons (pg_name (i := 3) scBen.nd rfl (Or.inr rfl)) (pgs_cons (pg_name (i := 4) scBen.nd rfl (Or.inl rfl)) pgs_nil)))) (pss_cons (ps_for PassesOwn.never rfl (pi_range1 (by rfl) T.range_ (pa_cons (pv 1) pa_nil)) (pg_name (i := 5) scBen.nd rfl (Or.inl rfl)) (pss_one (ps_asg (pe_tup (pa_cons (pe_op op_mul pe_int (pv 3)) (pa_cons (pe_op op_mul pe_int (pv 4)) pa_nil))) (pg_tup rfl (pgs_cons (pg_name (i := 3) scBen.nd rfl (Or.inr rfl)) (pgs_cons (pg_name (i := 4) scBen.nd rfl (Or.inl rfl)) pgs_nil)))))) (pss_one (ps_ret (pe_lc (own := [("k", 5)]) (g := gName 5) rfl scBen.nd (pi_range1 (by rfl) T.range_ (pa_cons (pv 4) pa_nil)) (blkOk_by (N := nBen) (sc := defScope sBen) (by decide +kernel)) (fun _ _ _ _ _ => pg_name (i := 5) scBen.nd rfl (Or.inl rfl)) (fun _ _ _ _ _ => pts_nil) (fun _ _ _ _ _ => (pe_op op_add (pv 3) (pv 5))))))))), ?_⟩
    refine ⟨_, rfl, a, _, rfl, .of ha, rfl, _, _, rfl, _, _, rfl, rfl, ?_⟩
    refine ⟨_, rfl, by show 2 ≤ sizeLine; decide, fun p np => ⟨p, _, rfl, .of upd_same, rfl, _, _, rfl, _, _, rfl, rfl, ?_⟩⟩
    have s1 := same_upd (o := HO.tup [.int (idx : Nat), .int 1]) np
    generalize upd H p (.tup [.int (idx : Nat), .int 1]) = H1 at *
    refine ⟨_, rfl, _, rfl, by omega, by omega, ?_⟩
    refine for_it (walk_range (lo := 0)) (fun i σ G => ∃ y5, σ = [some (.ref a), some (.int (lev : Nat)), some (.int (idx : Nat)), some (.int ((idx * 2 ^ i : Nat) : Int)), some (.int ((2 ^ i : Nat) : Int)), y5] ∧ Same H G) ⟨_, by rw [Nat.pow_zero, Nat.mul_one]; rfl, s1⟩ (fun i σ G _ _ => trivial) ?_ ?_
    · rintro i y σ G G' hi ⟨y5, rfl, sm⟩ ⟨rfl, rfl⟩
      refine ⟨_, rfl, _, _, rfl, rfl, .inl ⟨by decide, by decide⟩, _, rfl, _, _, rfl, rfl, .inl ⟨by decide, by decide⟩, by show 2 ≤ sizeLine; decide, fun p np => ⟨p, _, rfl, .of upd_same, rfl, _, _, rfl, _, _, rfl, rfl, ?_⟩⟩
      have s2 := same_upd (o := HO.tup [.int (2 * ((idx * 2 ^ i : Nat) : Int)), .int (2 * ((2 ^ i : Nat) : Int))]) np
      have e1 : (2 * ((idx * 2 ^ i : Nat) : Int)) = ((idx * 2 ^ (i + 1) : Nat) : Int) := by
        rw [Nat.pow_succ, ← Nat.mul_assoc]; omega
      have e2 : (2 * ((2 ^ i : Nat) : Int)) = ((2 ^ (i + 1) : Nat) : Int) := by
        rw [Nat.pow_succ]; omega
      refine ⟨some (.int (0 + (i : Nat))), ?_, sm.trans s2⟩
      show [some (V.ref a), some (V.int (lev : Nat)), some (V.int (idx : Nat)), some (V.int (2 * ((idx * 2 ^ i : Nat) : Int))), some (V.int (2 * ((2 ^ i : Nat) : Int))), some (V.int (0 + (i : Nat)))] = _
      rw [e1, e2]
    · rintro σ G ⟨y5, rfl, sm⟩
      have e : ((lev : Nat) : Int).toNat = lev := by omega
      rw [e]
      have hp : 2 ^ lev ≤ 256 := Nat.le_trans (Nat.pow_le_pow_right (by decide) hl) (by decide)
      obtain ⟨M, hM⟩ : ∃ M, M = 2 ^ lev := ⟨_, rfl⟩
      rw [← hM] at hp ⊢
      refine ⟨_, rfl, _, rfl, by omega, by omega, fun D nD => ?_⟩
      refine lcP (walk_range (lo := 0)) (fun i => V.int ((idx * M + i : Nat) : Int)) (Nat.lt_of_le_of_lt (show ((M : Nat) : Int).toNat ≤ 256 by omega) (by decide)) nD (fun _ _ => trivial) ?_ ?_
      · rintro i y G1 G2 Q' hi s2 ⟨rfl, rfl⟩ hq
        refine ⟨rfl, _, rfl, _, rfl, _, _, rfl, rfl, ?_⟩
        have e3 : (((idx * M : Nat) : Int) + (0 + (i : Nat))) = ((idx * M + i : Nat) : Int) := by omega
        dsimp only
        rw [e3]
        exact hq _ (Same.refl _)
      · intro G1 s2 hD
        have e4 : (((M : Nat) : Int).toNat) = M := by omega
        rw [e4] at hD
        refine q G1 D (sm.trans s2) (sm.free nD) (hD.trans ?_)
        unfold nN benL
        rw [← hM, List.map_map]
        rfl
theorem scLint : FnScope ["thing", "least", "most"] ["thing", "least", "most"] (defScope sLint) := ⟨rfl, rfl, rfl, by decide +kernel, rfl, by decide +kernel, by decide +kernel⟩
theorem ok_lint {f : Addr} {fd : FuncData} {k : Nat} (F : Fun K "_law_int" "_law_int" sLint f fd) (T : Tx mg) : FnOk P w K mg base CX0 (k + 1) f fd ["thing", "least", "most"] spLint := by
  refine F.ok scLint (fun vs H Q E h => ?_) (fun cdv A outer s H vs Q E hr h => ?_)
  · obtain ⟨b, v, lo, hi, rfl, _⟩ := h
    rfl
  · obtain ⟨b, v, lo, hi, rfl, hv, q⟩ := h
    obtain ⟨t, ht⟩ := hv.th
    refine ⟨_, (pss_one (ps_ret (pe_and (pe_callB call_isTh (by rfl) T.isi (by decide +kernel) (pa_cons (pv 0) (pa_cons (pe_bltn (v := .ty "int") (u := .type "int") (by rfl) T.int_ (by decide +kernel) rfl) pa_nil))) (pe_and (pe_not (pe_callB call_isTh (by rfl) T.isi (by decide +kernel) (pa_cons (pv 0) (pa_cons (pe_bltn (v := .ty "bool") (u := .type "bool") (by rfl) T.bool_ (by decide +kernel) rfl) pa_nil)))) (pe_one (pe_chain op_le op_le (pv 1) (pv 0) (pv 2))))))), ?_⟩
    refine ⟨_, rfl, _, "int", t, rfl, ht, by decide, _, rfl, ?_⟩
    rcases betw_cases (lo := lo) (hi := hi) ht with ⟨i, rfl, rfl⟩ | ⟨c, rfl, rfl⟩ | ⟨e1, e2⟩
    · refine iteT ⟨_, rfl, _, "bool", _, rfl, .int i, by decide, _, rfl, _, rfl, iteT ⟨_, rfl, _, rfl, _, _, rfl, rfl, _, rfl, ?_⟩⟩
      have e : betw lo hi (.int i) = (decide (lo ≤ i) && decide (i ≤ hi)) := by
        show decide (lo ≤ i ∧ i ≤ hi) = _
        rw [Bool.decide_and]
      rw [e] at q
      by_cases h0 : lo ≤ i
      · rw [decide_eq_true h0] at q ⊢
        exact iteT ⟨_, rfl, _, _, rfl, rfl, q⟩
      · rw [decide_eq_false h0] at q ⊢
        exact iteF q
    · exact iteT ⟨_, rfl, _, "bool", _, rfl, .bl c, by decide, _, rfl, _, rfl, iteF q⟩
    · rw [e2]
      rw [e1] at q
      exact iteF q
theorem scNamd : FnScope ["thing", "sign"] ["thing"] (defScope sNamd) := ⟨rfl, rfl, rfl, by decide +kernel, rfl, by decide +kernel, by decide +kernel⟩
theorem ok_namd {f : Addr} {fd : FuncData} {k : Nat} (F : Fun K "_law_named" "_law_named" sNamd f fd) (T : Tx mg) : FnOk P w K mg base CX0 (k + 1) f fd ["thing"] spWord := by
  refine F.ok scNamd (fun vs H Q E h => ?_) (fun cdv A outer s H vs Q E hr h => ?_)
  · obtain ⟨b, v, rfl, _⟩ := h
    rfl
  · obtain ⟨b, v, rfl, hv, q⟩ := h
    obtain ⟨t, ht⟩ := hv.th
    refine ⟨_, (pss_cons (ps_if (pt_or (pt_not (pt_val (pe_callB call_isTh (by rfl) T.isi (by decide +kernel) (pa_cons (pv 0) (pa_cons (pe_bltn (v := .ty "str") (u := .type "str") (by rfl) T.str_ (by decide +kernel) rfl) pa_nil))))) (pw_or1 (pt_not (pt_chain op_le op_le pe_int (pe_callB call_len_str (by rfl) T.len_ PySem.boot_len (pa_cons (pv 0) pa_nil)) pe_int)))) (pss_one (ps_ret pe_bl)) pss_nil) (pss_one (ps_ret (pe_callB (cr_all rfl) (by rfl) T.all_ (by decide +kernel) (pa_cons (pe_lc (own := [("sign", 1)]) (g := gName 1) (te := tOp rInS (tVar 1) (tC (.str "abcdefghijklmnopqrstuvwxyz"))) rfl scNamd.nd (pi_str (pv 0)) (blkOk_by (N := ["thing", "sign"]) (sc := defScope sNamd) (by decide +kernel)) (fun _ _ _ _ _ => pg_name (i := 1) scNamd.nd rfl (Or.inl rfl)) (fun _ _ _ _ _ => pts_nil) (fun _ _ _ _ _ => (pe_cmpR op_inS (pv 1) pe_str rfl))) pa_nil))))), ?_⟩
    refine ⟨_, rfl, _, "str", t, rfl, ht, by decide, _, rfl, ?_⟩
    rcases str_cases ht with ⟨z, rfl, rfl⟩ | ⟨e1, e2⟩
    · have ls : z.length ≤ sizeLine := Nat.le_trans hv.len (by decide)
      refine iteF ⟨_, rfl, z, rfl, ls, _, _, rfl, rfl, _, rfl, ?_⟩
      by_cases h1 : 1 ≤ z.length
      · rw [decide_eq_true (by omega)]
        refine iteT ⟨_, _, rfl, rfl, _, rfl, ?_⟩
        by_cases h2 : z.length ≤ 12
        · rw [decide_eq_true (by omega)]
          refine iteF ?_
          refine ⟨_, rfl, _, rfl, fun D hD => ?_⟩
          refine lcP walk_str (fun i => V.bl (signB (z.cps.toList.getD i 0))) (Nat.lt_of_le_of_lt (show z.cps.size ≤ 12 from h2) (by decide)) hD (fun _ _ => trivial) ?_ ?_
          · rintro i y H1 H2 Q' hi sm ⟨rfl, c, hc, rfl⟩ hq
            have hcm : z.cps.toList.getD i 0 = c := by
              rw [← Array.getElem?_toList] at hc
              rw [List.getD_eq_getElem?_getD, hc]
              rfl
            rw [hcm, ← in_letters] at hq
            exact ⟨rfl, _, rfl, c, _, rfl, rfl, hq _ (Same.refl _)⟩
          · intro H' sm hd
            refine ⟨D, (List.range z.cps.size).map fun i => signB (z.cps.toList.getD i 0), rfl, .inl (.inl (by rw [hd, List.map_map]; rfl)), ?_⟩
            have e := range_all signB 0 z.cps.toList
            rw [Array.length_toList] at e
            rw [e]
            have e4 : wordV (.str z) = z.cps.toList.all signB := by
              show wordB z = _
              unfold wordB
              rw [decide_eq_true h1, decide_eq_true h2]
              rfl
            rw [e4] at q
            exact q _ sm
        · rw [decide_eq_false (by omega)]
          have e4 : wordV (.str z) = false := by
            show wordB z = _
            unfold wordB
            rw [decide_eq_false h2]
            simp
          rw [e4] at q
          exact iteT (q _ (Same.refl _))
      · rw [decide_eq_false (by omega)]
        have e4 : wordV (.str z) = false := by
          show wordB z = _
          unfold wordB
          rw [decide_eq_false h1]
          rfl
        rw [e4] at q
        exact iteF ⟨_, rfl, iteT (q _ (Same.refl _))⟩
    · rw [e2]
      rw [e1] at q
      exact iteT (q _ (Same.refl _))
end
end L2.My
end
section
set_option Elab.async false
set_option linter.all false
set_option maxRecDepth 100000
set_option maxHeartbeats 4000000
/-! What is drawn is a tree. -/
namespace L2.My
open PySem PySem.Spec PyProof.Rows
structure RowOk (h : Nat) (ls : List Lf) (n : Nd) : Prop where
  l1 : 1 ≤ n.1.1
  lh : n.1.1 ≤ h
  at' : n.1.2 < 2 ^ (h - n.1.1)
  k0 : 0 ≤ n.2.1
  k1 : n.2.1 ≤ maxI
  pw : n.2.2.Pairwise (· < ·)
  le : n.2.2.length ≤ 256
  as : ∀ j ∈ n.2.2, j / 2 ^ n.1.1 = n.1.2 ∧ ∃ z, ls[j]? = some (some z)
def nI2 (n : Nd) : List Int := [((n.1.1 : Nat) : Int), ((n.1.2 : Nat) : Int)]
structure DrT (h : Nat) (ls : List Lf) (ns : List Nd) : Prop where
  h8 : h ≤ 8
  ll : ls.length = 2 ^ h
  gl : ∀ l ∈ ls, GLf l
  nd : ((ls.filterMap id).map (·.1)).Nodup
  gn : ∀ n ∈ ns, RowOk h ls n
  asc : ascBy HT.lexLt (ns.map nI2) = true
  nl : ns.length ≤ 1152
theorem pow8 {h : Nat} (hh : h ≤ 8) : 2 ^ h ≤ 256 := Nat.le_trans (Nat.pow_le_pow_right (by decide) hh) (by decide)
theorem DrT.l256 {h : Nat} {ls : List Lf} {ns : List Nd} (d : DrT h ls ns) : ls.length ≤ 256 := by
  rw [d.ll]; exact pow8 d.h8
theorem lf_non {H : Hp} {v : V} {l : Lf} (h : LfAt H v l) : notNon v = l.isSome := by
  cases l with
  | none => cases h; rfl
  | some p => obtain ⟨a, rfl, _⟩ := h; rfl
theorem lf_list {H : Hp} {vs : List V} {ls : List Lf} (h : Paired (LfAt H) vs ls) (hg : ∀ l ∈ ls, GLf l) : (vs.filter notNon).all (memB H) = true ∧ (vs.filter notNon).map (nameV H) = (ls.filterMap id).map (·.1) := by
  induction h with
  | nil => exact ⟨rfl, rfl⟩
  | @cons v l vs ls r t ih =>
    obtain ⟨i1, i2⟩ := ih fun x hx => hg x (List.mem_cons_of_mem _ hx)
    cases l with
    | none => cases r; exact ⟨i1, i2⟩
    | some p =>
      obtain ⟨z, i⟩ := p
      obtain ⟨a, rfl, ha⟩ := r
      obtain ⟨g1, g2, _⟩ := hg _ List.mem_cons_self z i rfl
      have e1 : memB H (.ref a) = true := by
        rw [memB_at (tupOf_at ha)]
        show (wordB z && decide (0 ≤ i)) = true
        rw [g1, decide_eq_true g2]
        rfl
      have e2 : nameV H (.ref a) = z := by
        unfold nameV
        rw [tupOf_at ha]
      refine ⟨?_, ?_⟩
      · show (memB H (.ref a) && (vs.filter notNon).all (memB H)) = true
        rw [e1, i1]; rfl
      · show nameV H (.ref a) :: (vs.filter notNon).map (nameV H) = z :: (ls.filterMap id).map (·.1)
        rw [e2, i2]
theorem leaves_ok {H : Hp} {a : Addr} {h : Nat} {ls : List Lf} {ns : List Nd} (hL : LvsAt H a ls) (d : DrT h ls ns) : leavesB H h (.ref a) = true := by
  obtain ⟨vs, ha, hp⟩ := hL
  obtain ⟨e1, e2⟩ := lf_list hp d.gl
  rw [leavesB_at (tupOf_at ha), e1, e2, decide_eq_true d.nd, decide_eq_true (show vs.length = 2 ^ h by rw [Paired.len hp, d.ll])]
  rfl
theorem asc_pw : ∀ {l : List Nat}, l.Pairwise (· < ·) → ascBy ltI (l.map fun (j : Nat) => (j : Int)) = true
  | [], _ => rfl
  | [_], _ => rfl
  | x :: y :: r, h => by
    have h1 := List.rel_of_pairwise_cons h (List.mem_cons_self (a := y) (l := r))
    show (decide ((x : Int) < (y : Int)) && ascBy ltI ((y :: r).map fun (j : Nat) => (j : Int))) = true
    rw [asc_pw (List.Pairwise.of_cons h), decide_eq_true (by omega)]
    rfl
theorem row_ok {H : Hp} {v : V} {n : Nd} {h : Nat} {vs : List V} {ls : List Lf} (hn : NdAt H v n) (r : RowOk h ls n) (hp : Paired (LfAt H) vs ls) : keptB H h vs v = true ∧ rowI H v = nI2 n := by
  obtain ⟨a, na, ca, rfl, h1, h2, h3⟩ := hn
  have t2 := tupOf_at h2
  have t3 := tupOf_at h3
  refine ⟨?_, ?_⟩
  · have e1 : levV H (.ref na) = n.1.1 := by unfold levV; rw [t2]; rfl
    have e2 : atV H (.ref na) = n.1.2 := by unfold atV; rw [t2]; rfl
    have e3 : nodeB H h (.ref na) = true := by
      unfold nodeB
      rw [t2]
      show (decide (0 ≤ ((n.1.1 : Nat) : Int) ∧ ((n.1.1 : Nat) : Int) < (h : Int) + 1) && decide (0 ≤ ((n.1.2 : Nat) : Int) ∧ ((n.1.2 : Nat) : Int) < (2 : Int) ^ (h - ((n.1.1 : Nat) : Int).toNat))) = true
      have c1 := r.lh
      have c2 := r.at'
      have e : ((2 : Int) ^ (h - ((n.1.1 : Nat) : Int).toNat)) = ((2 ^ (h - n.1.1) : Nat) : Int) := by
        rw [Int.toNat_natCast]; push_cast; rfl
      rw [e, decide_eq_true (by omega), decide_eq_true ⟨by omega, Int.ofNat_lt.mpr c2⟩]
      rfl
    rw [keptB_at (tupOf_at h1), e1, e2, e3, decide_eq_true (show n.1.1 ≠ 0 by have := r.l1; omega), asideB_at t3]
    have e4 : numV (.int n.2.1) = true := decide_eq_true r.k0
    have e5 : (nN n.2.2).all (belowV (vs.length : Int)) = true := by
      unfold nN
      rw [List.all_map, List.all_eq_true]
      intro j hj
      obtain ⟨_, z, hz⟩ := r.as j hj
      have := (List.getElem?_eq_some_iff.mp hz).1
      have := Paired.len hp
      exact decide_eq_true (show (0 : Int) ≤ (j : Nat) ∧ ((j : Nat) : Int) < (vs.length : Int) by omega)
    have e6 : (nN n.2.2).map intV = n.2.2.map fun (j : Nat) => (j : Int) := by
      unfold nN
      rw [List.map_map]
      rfl
    have e7 : ((nN n.2.2).all fun x => decide (iV x / 2 ^ n.1.1 = n.1.2) && notNon (vs.getD (iV x) .non)) = true := by
      unfold nN
      rw [List.all_map, List.all_eq_true]
      intro j hj
      obtain ⟨c, z, hz⟩ := r.as j hj
      obtain ⟨v, hv, hl⟩ := Paired.at hp hz
      show (decide (((j : Nat) : Int).toNat / 2 ^ n.1.1 = n.1.2) && notNon (vs.getD ((j : Nat) : Int).toNat .non)) = true
      rw [Int.toNat_natCast, decide_eq_true c, List.getD_eq_getElem?_getD, hv]
      exact lf_non hl
    rw [e4, e5, e6, asc_pw r.pw, e7]
    rfl
  · unfold rowI
    rw [tupOf_at h1]
    show nodI H (.ref na) = _
    unfold nodI
    rw [t2]
    rfl
theorem rows_ok {H : Hp} {ws : List V} {ns : List Nd} {h : Nat} {vs : List V} {ls : List Lf} (hn : Paired (NdAt H) ws ns) (r : ∀ n ∈ ns, RowOk h ls n) (hp : Paired (LfAt H) vs ls) : ws.all (keptB H h vs) = true ∧ ws.map (rowI H) = ns.map nI2 := by
  induction hn with
  | nil => exact ⟨rfl, rfl⟩
  | @cons w n ws ns q t ih =>
    obtain ⟨i1, i2⟩ := ih fun x hx => r x (List.mem_cons_of_mem _ hx)
    obtain ⟨j1, j2⟩ := row_ok q (r n List.mem_cons_self) hp
    exact ⟨by rw [List.all_cons, j1, i1]; rfl, by rw [List.map_cons, List.map_cons, j2, i2]⟩
theorem drawn_ok {H : Hp} {la na : Addr} {h : Nat} {ls : List Lf} {ns : List Nd} (hL : LvsAt H la ls) (hN : NdsAt H na ns) (d : DrT h ls ns) : badT H (.int (h : Nat)) (.ref la) (.ref na) = none := by
  have e1 : belowV 9 (.int (h : Nat)) = true := decide_eq_true (show (0 : Int) ≤ (h : Nat) ∧ ((h : Nat) : Int) < 9 by have := d.h8; omega)
  have e2 : iV (.int (h : Nat)) = h := Int.toNat_natCast h
  have e3 := leaves_ok hL d
  obtain ⟨vs, ha, hp⟩ := hL
  obtain ⟨ws, hb, hq⟩ := hN
  obtain ⟨r1, r2⟩ := rows_ok hq d.gn hp
  have e4 : nodesB H h vs (.ref na) = true := by
    rw [nodesB_at (tupOf_at hb), r1, r2, d.asc]
    rfl
  unfold badT
  rw [e1, e2, e3, tupOf_at ha, Option.getD_some, e4]
  rfl
/-! ### and made of things -/
section
variable {b : Addr} {H : Hp}
theorem thg_lf {v : V} {l : Lf} (n : NoTup H b) (h : LfAt H v l) (g : GLf l) : Thg b H v := by
  cases l with
  | none => cases h; exact .non
  | some p =>
    obtain ⟨z, i⟩ := p
    obtain ⟨a, rfl, ha⟩ := h
    obtain ⟨g1, g2, g3⟩ := g z i rfl
    refine .tup ha (n.ne ha) (by show 2 ≤ 5000; decide) fun x hx => ?_
    rcases List.mem_cons.mp hx with rfl | hx
    · exact .str _ (Nat.le_trans (word_low g1).1 (by decide))
    · rw [List.mem_singleton.mp hx]; exact .int _ g3
theorem thg_lvs {a : Addr} {ls : List Lf} (n : NoTup H b) (h : LvsAt H a ls) (g : ∀ l ∈ ls, GLf l) (hl : ls.length ≤ 5000) : Thg b H (.ref a) := by
  obtain ⟨vs, ha, hp⟩ := h
  refine .tup ha (n.ne ha) (by rw [Paired.len hp]; exact hl) fun x hx => ?_
  obtain ⟨i, hi⟩ := List.getElem?_of_mem hx
  obtain ⟨l, h1, h2⟩ := Paired.at' hp hi
  exact thg_lf n h2 (g l (List.mem_of_getElem? h1))
theorem thg_nats {a : Addr} {js : List Nat} (n : NoTup H b) (h : H a = some (.tup (nN js))) (hl : js.length ≤ 5000) (hj : ∀ j ∈ js, j < 256) : Thg b H (.ref a) := by
  refine .tup h (n.ne h) (by unfold nN; rw [List.length_map]; exact hl) fun x hx => ?_
  obtain ⟨j, h1, rfl⟩ := List.mem_map.mp hx
  refine .int _ ?_
  have := hj j h1
  have e : (256 : Int) ≤ maxI := by decide
  omega
theorem thg_pair {a : Addr} {i j : Nat} (n : NoTup H b) (h : H a = some (.tup [.int (i : Nat), .int (j : Nat)])) (hi : i ≤ 1000) (hj : j ≤ 1000) : Thg b H (.ref a) := by
  have e : (1000 : Int) ≤ maxI := by decide
  refine .tup h (n.ne h) (by show 2 ≤ 5000; decide) fun x hx => ?_
  rcases List.mem_cons.mp hx with rfl | hx
  · exact .int _ (by omega)
  · rw [List.mem_singleton.mp hx]; exact .int _ (by omega)
theorem RowOk.b128 {h : Nat} {ls : List Lf} {n : Nd} (r : RowOk h ls n) (hh : h ≤ 8) : n.1.2 < 128 := by
  have h1 := r.at'
  have h2 : 2 ^ (h - n.1.1) ≤ 2 ^ 7 := Nat.pow_le_pow_right (by decide) (by have := r.l1; omega)
  have h3 : (2 : Nat) ^ 7 = 128 := by decide
  omega
theorem thg_nd {v : V} {nd : Nd} {h : Nat} {ls : List Lf} (n : NoTup H b) (hv : NdAt H v nd) (r : RowOk h ls nd) (hh : h ≤ 8) (hl : ls.length ≤ 256) : Thg b H v := by
  obtain ⟨a, na, ca, rfl, h1, h2, h3⟩ := hv
  refine .tup h1 (n.ne h1) (by show 3 ≤ 5000; decide) fun x hx => ?_
  rcases List.mem_cons.mp hx with rfl | hx
  · exact thg_pair n h2 (by have := r.lh; omega) (by have := r.b128 hh; omega)
  · rcases List.mem_cons.mp hx with rfl | hx
    · exact .int _ r.k1
    · rw [List.mem_singleton.mp hx]
      refine thg_nats n h3 (Nat.le_trans r.le (by decide)) fun j hj => ?_
      obtain ⟨_, z, hz⟩ := r.as j hj
      have := (List.getElem?_eq_some_iff.mp hz).1
      omega
theorem thg_nds {a : Addr} {ns : List Nd} {h : Nat} {ls : List Lf} (n : NoTup H b) (hN : NdsAt H a ns) (d : DrT h ls ns) : Thg b H (.ref a) := by
  obtain ⟨ws, ha, hp⟩ := hN
  refine .tup ha (n.ne ha) (by rw [Paired.len hp]; exact Nat.le_trans d.nl (by decide)) fun x hx => ?_
  obtain ⟨i, hi⟩ := List.getElem?_of_mem hx
  obtain ⟨l, h1, h2⟩ := Paired.at' hp hi
  exact thg_nd n h2 (d.gn l (List.mem_of_getElem? h1)) d.h8 d.l256
end
end L2.My
end
section
set_option Elab.async false
set_option linter.all false
set_option maxRecDepth 100000
set_option maxHeartbeats 4000000
/-! A tree is drawn. -/
namespace L2.My
open PySem PySem.Spec PyProof.Rows
abbrev sTr : Stmt := top 50
abbrev nTr : List Str := ["box", "most", "height", "leaves", "names", "leaf", "name", "nodes", "many", "level", "index", "beneath", "aside"]
theorem can_strs : ∀ zs : List Str, (∀ z ∈ zs, wordB z = true) → PyData.canLayAll0 (zs.map PyData.str) = true
  | [], _ => rfl
  | z :: r, h => by
    rw [List.map_cons, PyData.canLayAll0, can_strs r fun y hy => h y (List.mem_cons_of_mem _ hy), (Nice.str (word_low (h z List.mem_cons_self)).2).cl]
    rfl
theorem dep_strs : ∀ zs : List Str, PyData.depthAll (zs.map PyData.str) ≤ 1
  | [] => by decide
  | z :: r => by
    have := dep_strs r
    simp only [List.map_cons, PyData.depthAll, PyData.depth]
    omega
theorem shaped_strs (zs : List Str) (h : ∀ z ∈ zs, wordB z = true) : SeqAt.shaped (.list (zs.map PyData.str)) = true := by
  have h1 : PyData.canLay0 (.list (zs.map PyData.str)) = true := by rw [PyData.canLay0]; exact can_strs zs h
  have h2 := dep_strs zs
  unfold SeqAt.shaped
  rw [h1, Bool.true_and]
  refine decide_eq_true ?_
  simp only [PyData.depth]
  omega
theorem shaped_str {z : Str} (h : wordB z = true) : SeqAt.shaped (.str z) = true := by
  unfold SeqAt.shaped
  rw [(Nice.str (word_low h).2).cl, PyData.depth]
  decide
theorem dp_strs {K : PySem.W.Frag} {H : Hp} : ∀ zs : List Str, DpAll K H (zs.map V.str) (zs.map PyData.str)
  | [] => .nil
  | z :: r => .cons (.str z) (dp_strs r)
theorem any_strs (z : Str) : ∀ zs : List Str, ((zs.map PyData.str).any fun y => PyData.eqv y (.str z)) = decide (z ∈ zs)
  | [] => rfl
  | y :: r => by
    rw [List.map_cons, List.any_cons, any_strs z r, eqv_s, ← Bool.decide_or]
    refine decide_eq_decide.mpr ?_
    rw [List.mem_cons]
    exact or_congr_left ⟨Eq.symm, Eq.symm⟩
theorem rNotIn_strs {K : PySem.W.Frag} {H : Hp} {a : Addr} {z : Str} {zs : List Str} {Q : VK} (h : H a = some (.lst (zs.map V.str))) (hz : wordB z = true) (hs : ∀ y ∈ zs, wordB y = true) (q : Q (.bl (!decide (z ∈ zs))) H) : rNotInD K (.str z) (.ref a) H Q :=
  ⟨.str z, zs.map PyData.str, .str z, .lst (.of h) (dp_strs zs), shaped_str hz, shaped_strs zs hs, by rw [any_strs]; exact q⟩
theorem rIn_strs {K : PySem.W.Frag} {H : Hp} {a : Addr} {z : Str} {zs : List Str} {Q : VK} (h : H a = some (.lst (zs.map V.str))) (hz : wordB z = true) (hs : ∀ y ∈ zs, wordB y = true) (q : Q (.bl (decide (z ∈ zs))) H) : rInD K (.str z) (.ref a) H Q :=
  ⟨.str z, zs.map PyData.str, .str z, .lst (.of h) (dp_strs zs), shaped_str hz, shaped_strs zs hs, by rw [any_strs]; exact q⟩
/-- the words among leaves -/
def wds (ls : List Lf) : List Str := (ls.filterMap id).map (·.1)
theorem wds_none (ls : List Lf) : wds (ls ++ [none]) = wds ls := by
  unfold wds
  rw [List.filterMap_append]
  simp
theorem wds_some (ls : List Lf) (p : Str × Int) : wds (ls ++ [some p]) = wds ls ++ [p.1] := by
  unfold wds
  rw [List.filterMap_append]
  simp
theorem wds_word {ls : List Lf} (h : ∀ l ∈ ls, GLf l) : ∀ z ∈ wds ls, wordB z = true := fun z hz => by
  unfold wds at hz
  obtain ⟨p, hp, rfl⟩ := List.mem_map.mp hz
  obtain ⟨l, hl, e⟩ := List.mem_filterMap.mp hp
  exact (h l hl p.1 p.2 e).1
/-- while leaves are drawn -/
structure LvI (b g Lv Nm : Addr) (H G : Hp) (i : Nat) (ls : List Lf) : Prop where
  bl : BL [b] H G
  hb : BoxAt G b g
  vs : ∃ vs, G Lv = some (.lst vs) ∧ Paired (LfAt G) vs ls
  nm : G Nm = some (.lst ((wds ls).map V.str))
  len : ls.length = i
  gl : ∀ l ∈ ls, GLf l
  nd : (wds ls).Nodup
section
variable {b g Lv Nm : Addr} {H G G' : Hp} {i : Nat} {ls : List Lf}
theorem LvI.step (h : LvI b g Lv Nm H G i ls) (s : BL [b] G G') (hb : BoxAt G' b g) (n1 : Lv ≠ b) (n2 : Nm ≠ b) : LvI b g Lv Nm H G' i ls := by
  obtain ⟨vs, e1, e2⟩ := h.vs
  exact ⟨h.bl.trans s, hb, ⟨vs, s _ _ (by simpa using n1) e1, Paired.mapP e2 fun _ _ r => r.tk (h.hb.tk s)⟩, s _ _ (by simpa using n2) h.nm, h.len, h.gl, h.nd⟩
theorem LvI.addN (h : LvI b g Lv Nm H G i ls) (hLv : H Lv = none) (n1 : Lv ≠ b) (n2 : Lv ≠ g) (n3 : Nm ≠ Lv) {vs : List V} (e1 : G Lv = some (.lst vs)) (e2 : Paired (LfAt G) vs ls) : LvI b g Lv Nm H (upd G Lv (.lst (vs ++ [.non]))) (i + 1) (ls ++ [none]) := by
  have tk : TK G (upd G Lv (.lst (vs ++ [.non]))) := .upd e1 (fun _ e => by cases e)
  refine ⟨h.bl.put hLv, h.hb.put n1 n2, ⟨_, upd_same, Paired.snoc (Paired.mapP e2 fun _ _ r => r.tk tk) rfl⟩, ?_, by rw [List.length_append, h.len]; rfl, fun l hl => ?_, by rw [wds_none]; exact h.nd⟩
  · rw [upd_ne n3, wds_none]; exact h.nm
  · rcases List.mem_append.mp hl with z | z
    · exact h.gl l z
    · rw [List.mem_singleton.mp z]; intro z i e; cases e
theorem LvI.addS (hbl : BL [b] H G) (hb : BoxAt G b g) (hLv : H Lv = none) (n1 : Lv ≠ b) (n2 : Lv ≠ g) (n3 : Nm ≠ Lv) {vs : List V} (e1 : G Lv = some (.lst vs)) (e2 : Paired (LfAt G) vs ls) {z : Str} {r : Int} {p : Addr} (hN : G Nm = some (.lst ((wds ls).map V.str ++ [.str z]))) (hl : ls.length = i) (gl : ∀ l ∈ ls, GLf l) (nd : (wds ls).Nodup) (hz : z ∉ wds ls) (hw : wordB z = true) (r0 : 0 ≤ r) (r1 : r ≤ maxI) (hp : G p = some (.tup [.str z, .int r])) :
    LvI b g Lv Nm H (upd G Lv (.lst (vs ++ [.ref p]))) (i + 1) (ls ++ [some (z, r)]) := by
  have tk : TK G (upd G Lv (.lst (vs ++ [.ref p]))) := .upd e1 (fun _ e => by cases e)
  refine ⟨hbl.put hLv, hb.put n1 n2, ⟨_, upd_same, Paired.snoc (Paired.mapP e2 fun _ _ r => r.tk tk) ⟨p, rfl, tk _ _ hp⟩⟩, ?_, by rw [List.length_append, hl]; rfl, fun l hl => ?_, ?_⟩
  · rw [upd_ne n3, wds_some, List.map_append]; exact hN
  · rcases List.mem_append.mp hl with z | z
    · exact gl l z
    · rw [List.mem_singleton.mp z]; intro z i e; cases e; exact ⟨hw, r0, r1⟩
  · rw [wds_some]; exact nodup_snoc.mpr ⟨nd, hz⟩
end
section
variable {P : Program} {w : World} {K : PySem.W.Frag} {mg : Str → Option Value} {base : Heap}
/-- while nodes are drawn -/
structure NdI (b g Lv Nl : Addr) (H G : Hp) (h : Nat) (ls : List Lf) (ns : List Nd) (lev at' : Nat) : Prop where
  bl : BL [b] H G
  hb : BoxAt G b g
  vs : ∃ vs, G Lv = some (.lst vs) ∧ Paired (LfAt G) vs ls
  ws : ∃ ws, G Nl = some (.lst ws) ∧ Paired (NdAt G) ws ns
  gn : ∀ n ∈ ns, RowOk h ls n
  asc : ascBy HT.lexLt (ns.map nI2) = true
  lt : ∀ n ∈ ns, n.1.1 < lev ∨ (n.1.1 = lev ∧ n.1.2 < at')
  nl : ns.length ≤ (lev - 1) * 128 + at'
theorem NdI.step {b g Lv Nl : Addr} {H G G' : Hp} {h lev at' : Nat} {ls : List Lf} {ns : List Nd} (x : NdI b g Lv Nl H G h ls ns lev at') (s : BL [b] G G') (hb : BoxAt G' b g) (n1 : Lv ≠ b) (n2 : Nl ≠ b) : NdI b g Lv Nl H G' h ls ns lev at' := by
  obtain ⟨vs, e1, e2⟩ := x.vs
  obtain ⟨ws, f1, f2⟩ := x.ws
  have tk := x.hb.tk s
  exact ⟨x.bl.trans s, hb, ⟨vs, s _ _ (by simpa using n1) e1, Paired.mapP e2 fun _ _ r => r.tk tk⟩, ⟨ws, s _ _ (by simpa using n2) f1, Paired.mapP f2 fun _ _ r => r.tk tk⟩, x.gn, x.asc, x.lt, x.nl⟩
theorem asc_snoc {α : Type} {lt : α → α → Bool} {x : α} : ∀ {l : List α}, (∀ y ∈ l, lt y x = true) → ascBy lt l = true → ascBy lt (l ++ [x]) = true
  | [], _, _ => rfl
  | [y], h, _ => by
    show (lt y x && true) = true
    rw [h y List.mem_cons_self]; rfl
  | y :: z :: r, h, e => by
    obtain ⟨e1, e2⟩ := Bool.and_eq_true_iff.mp (show (lt y z && ascBy lt (z :: r)) = true from e)
    show (lt y z && ascBy lt ((z :: r) ++ [x])) = true
    rw [e1, asc_snoc (fun a ha => h a (List.mem_cons_of_mem _ ha)) e2]; rfl
theorem NdI.weak {b g Lv Nl : Addr} {H G : Hp} {h lev at' : Nat} {ls : List Lf} {ns : List Nd} (x : NdI b g Lv Nl H G h ls ns lev at') : NdI b g Lv Nl H G h ls ns lev (at' + 1) :=
  ⟨x.bl, x.hb, x.vs, x.ws, x.gn, x.asc, fun n hn => (x.lt n hn).imp_right fun e => ⟨e.1, by omega⟩, by have := x.nl; omega⟩
theorem NdI.next {b g Lv Nl : Addr} {H G : Hp} {h lev at' : Nat} {ls : List Lf} {ns : List Nd} (x : NdI b g Lv Nl H G h ls ns lev at') (h1 : 1 ≤ lev) (ha : at' ≤ 128) : NdI b g Lv Nl H G h ls ns (lev + 1) 0 :=
  ⟨x.bl, x.hb, x.vs, x.ws, x.gn, x.asc, fun n hn => .inl (by rcases x.lt n hn with e | e <;> omega), by have := x.nl; omega⟩
theorem NdI.add {b g Lv Nl : Addr} {H G : Hp} {h lev at' : Nat} {ls : List Lf} {ns : List Nd} (x : NdI b g Lv Nl H G h ls ns lev at') (hNl : H Nl = none) (n1 : Nl ≠ b) (n2 : Nl ≠ g) (n3 : Lv ≠ Nl) {ws : List V} (f1 : G Nl = some (.lst ws)) (f2 : Paired (NdAt G) ws ns) {v : V} {n : Nd} (hv : NdAt G v n) (hr : RowOk h ls n) (hl : n.1.1 = lev) (ha : n.1.2 = at') :
    NdI b g Lv Nl H (upd G Nl (.lst (ws ++ [v]))) h ls (ns ++ [n]) lev (at' + 1) := by
  have tk : TK G (upd G Nl (.lst (ws ++ [v]))) := .upd f1 (fun _ e => by cases e)
  obtain ⟨vs, e1, e2⟩ := x.vs
  refine ⟨x.bl.put hNl, x.hb.put n1 n2, ⟨vs, by rw [upd_ne n3]; exact e1, Paired.mapP e2 fun _ _ r => r.tk tk⟩, ⟨_, upd_same, Paired.snoc (Paired.mapP f2 fun _ _ r => r.tk tk) (hv.tk tk)⟩, fun m hm => ?_, ?_, fun m hm => ?_, ?_⟩
  · rcases List.mem_append.mp hm with z | z
    · exact x.gn m z
    · rw [List.mem_singleton.mp z]; exact hr
  · rw [List.map_append]
    refine asc_snoc (fun y hy => ?_) x.asc
    obtain ⟨m, hm, rfl⟩ := List.mem_map.mp hy
    show HT.lexLt [((m.1.1 : Nat) : Int), ((m.1.2 : Nat) : Int)] [((n.1.1 : Nat) : Int), ((n.1.2 : Nat) : Int)] = true
    rw [HT.lexLt_cons]
    rcases x.lt m hm with e | ⟨e, e'⟩
    · rw [if_neg (by omega), decide_eq_true_eq]; omega
    · rw [if_pos (by omega), HT.lexLt_cons, if_neg (by omega), decide_eq_true_eq]; omega
  · rcases List.mem_append.mp hm with z | z
    · exact (x.lt m z).imp_right fun e => ⟨e.1, by omega⟩
    · rw [List.mem_singleton.mp z]; exact .inr ⟨hl, by omega⟩
  · have := x.nl
    rw [List.length_append, List.length_singleton]
    omega
theorem ben_pw (lev idx : Nat) : (benL lev idx).Pairwise (· < ·) := by
  unfold benL
  rw [List.pairwise_map]
  exact List.pairwise_lt_range.imp fun h => by omega
theorem ben_mem {lev idx j : Nat} (h : j ∈ benL lev idx) : j / 2 ^ lev = idx ∧ ∃ k, k < 2 ^ lev ∧ j = idx * 2 ^ lev + k := by
  obtain ⟨k, hk, rfl⟩ := List.mem_map.mp h
  have hk := List.mem_range.mp hk
  refine ⟨?_, k, hk, rfl⟩
  rw [Nat.mul_comm, Nat.mul_add_div (by omega), Nat.div_eq_of_lt hk]
  rfl
theorem ben_lt {h lev idx j : Nat} (hj : j ∈ benL lev idx) (hi : idx < 2 ^ (h - lev)) (hl : lev ≤ h) : j < 2 ^ h := by
  obtain ⟨_, k, hk, rfl⟩ := ben_mem hj
  have e : 2 ^ h = 2 ^ (h - lev) * 2 ^ lev := by rw [← Nat.pow_add]; congr 1; omega
  rw [e]
  have h2 : (idx + 1) * 2 ^ lev ≤ 2 ^ (h - lev) * 2 ^ lev := Nat.mul_le_mul_right _ hi
  rw [Nat.add_mul, Nat.one_mul] at h2
  omega
theorem sub_snoc {l js : List Nat} {q c : Nat} (h : js.Sublist (l.take q)) (e : l[q]? = some c) : (js ++ [c]).Sublist (l.take (q + 1)) := by
  rw [take_snoc e]; exact h.append (List.Sublist.refl _)
theorem sub_skip {l js : List Nat} {q c : Nat} (h : js.Sublist (l.take q)) (e : l[q]? = some c) : js.Sublist (l.take (q + 1)) := by
  rw [take_snoc e]; exact h.trans (List.sublist_append_left _ _)
theorem ben_len (lev idx : Nat) : (benL lev idx).length = 2 ^ lev := by unfold benL; rw [List.length_map, List.length_range]
theorem nN_at {l : List Nat} {i : Nat} {x : V} (h : (nN l)[i]? = some x) : ∃ j : Nat, l[i]? = some j ∧ x = .int (j : Nat) := by
  unfold nN at h
  rw [List.getElem?_map] at h
  cases e : l[i]? with
  | none => rw [e] at h; cases h
  | some j => rw [e] at h; exact ⟨j, rfl, (Option.some.inj h).symm⟩
theorem nN_len (l : List Nat) : (nN l).length = l.length := by unfold nN; rw [List.length_map]
def spTr : Sp := fun vs H Q _ => ∃ (b g : Addr) (m : Nat), vs = [.ref b, .int (m : Nat)] ∧ BoxAt H b g ∧ m ≤ 8 ∧ ∀ H' p la na h ls ns, BL [b] H H' → BoxAt H' b g → H p = none → H' p = some (.lst [.int (h : Nat), .ref la, .ref na]) → LvsAt H' la ls → NdsAt H' na ns → DrT h ls ns → Q (.ref p) H'
theorem scTr2 : FnScope nTr ["box", "most"] (defScope sTr) := ⟨rfl, rfl, rfl, by decide +kernel, rfl, by decide +kernel, by decide +kernel⟩
theorem ok_ltree {f : Addr} {fd : FuncData} {k : Nat} (F : Fun K "_law_tree" "_law_tree" sTr f fd) (T : Tx mg) (cD : Cal P w K mg base (k + 4) "_law_draw" ["box", "menu"] spDraw) (cB : Cal P w K mg base (k + 4) "_law_beneath" ["node"] spBen) (cN : Cal P w K mg base (k + 4) "_law_name" ["box"] spName) (cL : Cal P w K mg base (k + 4) "_law_lock" ["box"] spLock) : FnOk P w K mg base CX0 (k + 5) f fd ["box", "most"] spTr := by
  refine F.ok scTr2 (fun vs H Q E h => ?_) (fun cdv A outer s H vs Q E hr h => ?_)
  · obtain ⟨b, g, m, rfl, _⟩ := h
    rfl
  · obtain ⟨b, g, m, rfl, hB, hm, q⟩ := h
    refine ⟨_, (pss_cons (ps_set (i := 2) scTr2.nd rfl (Or.inl rfl) (pe_c cD hr (by omega) (by rfl) (pa_cons (pv 0) (pa_cons (pe_op op_add (pv 1) pe_int) pa_nil)))) (pss_cons (ps_set (i := 3) scTr2.nd rfl (Or.inr rfl) (pe_lst pa_nil)) (pss_cons (ps_set (i := 4) scTr2.nd rfl (Or.inl rfl) (pe_lst pa_nil)) (pss_cons (ps_for PassesOwn.never rfl (pi_list (pe_c cB hr (by omega) (by rfl) (pa_cons (pe_tup (pa_cons (pv 2) (pa_cons pe_int pa_nil))) pa_nil))) (pg_name (i := 5) scTr2.nd rfl (Or.inl rfl)) (pss_cons (ps_set (i := 6) scTr2.nd rfl (Or.inl rfl) (pe_c cN hr (by omega) (by rfl) (pa_cons (pv 0) pa_nil))) (pss_one (ps_if (pt_and (pt_cmpR op_gt (pe_c cD hr (by omega) (by rfl) (pa_cons (pv 0) (pa_cons pe_int pa_nil))) pe_int (nomark _)) (pw_and1 (pt_cmpR (op_notInD (u65 hr)) (pv 6) (pv 4) rfl))) (pss_cons (ps_expr (pe_bm PySem.F.plainAttrs_list PySem.F.slot_list_append PySem.F.type_list_append mt_append (pv 4) (pa_cons (pv 6) pa_nil))) (pss_one (ps_expr (pe_bm PySem.F.plainAttrs_list PySem.F.slot_list_append PySem.F.type_list_append mt_append (pv 3) (pa_cons (pe_tup (pa_cons (pv 6) (pa_cons (pe_c cL hr (by omega) (by rfl) (pa_cons (pv 0) pa_nil)) pa_nil))) pa_nil))))) (pss_one (ps_expr (pe_bm PySem.F.plainAttrs_list PySem.F.slot_list_append PySem.F.type_list_append mt_append (pv 3) (pa_cons pe_non pa_nil)))))))) (pss_cons (ps_set (i := 7) scTr2.nd rfl (Or.inl rfl) (pe_lst pa_nil)) (pss_cons (ps_set (i := 8) scTr2.nd rfl (Or.inl rfl) (pe_callB call_len_seq (by rfl) T.len_ PySem.boot_len (pa_cons (pv 3) pa_nil))) (pss_cons (ps_for PassesOwn.never rfl (pi_range2 (by rfl) T.range_ (pa_cons pe_int (pa_cons (pe_op op_add (pv 2) pe_int) pa_nil))) (pg_name (i := 9) scTr2.nd rfl (Or.inl rfl)) (pss_cons (ps_set (i := 8) scTr2.nd rfl (Or.inl rfl) (pe_op op_fdiv (pv 8) pe_int)) (pss_one (ps_for PassesOwn.never rfl (pi_range1 (by rfl) T.range_ (pa_cons (pv 8) pa_nil)) (pg_name (i := 10) scTr2.nd rfl (Or.inl rfl)) (pss_one (ps_if (pt_cmpR op_eq (pe_c cD hr (by omega) (by rfl) (pa_cons (pv 0) (pa_cons pe_int pa_nil))) pe_int (nomark _)) (pss_cons (ps_setLc (own := [("leaf", 5)]) (i := 11) (g := gName 5) (te := tVar 5) (tt := tTest (tOp rNotN (tOp (rIxL K) (tVar 3) (tVar 5)) (tC .non))) rfl scTr2.nd rfl rfl (sw_true rfl rfl rfl (by decide +kernel)) (pi_list (pe_c cB hr (by omega) (by rfl) (pa_cons (pe_tup (pa_cons (pv 9) (pa_cons (pv 10) pa_nil))) pa_nil))) (blkOk_by (N := nTr) (sc := defScope sTr) (by decide +kernel)) (fun _ _ _ _ _ => pg_name (i := 5) scTr2.nd rfl (Or.inl rfl)) (fun _ _ _ _ _ => (pts_one (pt_cmpR op_notN (pe_ix ix_list (pv 3) (pv 5) (fun _ _ => rfl)) pe_non (nomark _)))) (fun _ _ _ _ _ => (pv 5))) (pss_cons (ps_set (i := 12) scTr2.nd rfl (Or.inl rfl) (pe_tupleOf (by rfl) T.tuple_ (pe_lc (own := [("leaf", 5)]) (g := gName 5) (te := tVar 5) (tt := tTest (tOp rEq (tCall spDraw [] E0 (tCons (tVar 0) (tCons (tC (.int 4)) tNil))) (tC (.int 0)))) rfl scTr2.nd (pi_list (pv 11)) (blkOk_by (N := nTr) (sc := defScope sTr) (by decide +kernel)) (fun _ _ _ _ _ => pg_name (i := 5) scTr2.nd rfl (Or.inl rfl)) (fun _ _ _ _ _ => (pts_one (pt_cmpR op_eq (pe_c cD hr (by omega) (by rfl) (pa_cons (pv 0) (pa_cons pe_int pa_nil))) pe_int (nomark _)))) (fun _ _ _ _ _ => (pv 5))))) (pss_one (ps_expr (pe_bm PySem.F.plainAttrs_list PySem.F.slot_list_append PySem.F.type_list_append mt_append (pv 7) (pa_cons (pe_tup (pa_cons (pe_tup (pa_cons (pv 9) (pa_cons (pv 10) pa_nil))) (pa_cons (pe_c cL hr (by omega) (by rfl) (pa_cons (pv 0) pa_nil)) (pa_cons (pv 12) pa_nil)))) pa_nil)))))) pss_nil)))))) (pss_one (ps_ret (pe_lst (pa_cons (pv 2) (pa_cons (pe_tupleOf (by rfl) T.tuple_ (pv 3)) (pa_cons (pe_tupleOf (by rfl) T.tuple_ (pv 7)) pa_nil))))))))))))), ?_⟩
    refine ⟨_, rfl, _, rfl, _, _, rfl, rfl, b, g, _, rfl, hB, by omega, Nat.lt_of_le_of_lt (show (((m : Nat) : Int) + 1).natAbs ≤ 9 by omega) (by decide), fun H1 r bl1 hB1 r0 r1 => ?_⟩
    obtain ⟨h, rfl⟩ : ∃ h : Nat, r = h := ⟨r.toNat, by omega⟩
    have h8 : h ≤ 8 := by omega
    refine ⟨Nat.zero_le _, fun Lv nLv => ?_⟩
    have s2 := same_upd (o := HO.lst []) nLv
    have nLb := hB1.nb nLv
    have nLg := hB1.ng nLv
    have nLH := bl1.nw nLv (by simpa using nLb)
    have hLv2 : (upd H1 Lv (.lst [])) Lv = some (.lst []) := upd_same
    have hB2 := hB1.same s2
    generalize upd H1 Lv (.lst []) = H2 at *
    refine ⟨Nat.zero_le _, fun Nm nNm => ?_⟩
    have s3 := same_upd (o := HO.lst []) nNm
    have nNb := hB2.nb nNm
    have nNg := hB2.ng nNm
    have nNL : Nm ≠ Lv := fun e => by rw [e, hLv2] at nNm; cases nNm
    have nNH := (bl1.trans (.same s2)).nw nNm (by simpa using nNb)
    have hNm3 : (upd H2 Nm (.lst [])) Nm = some (.lst []) := upd_same
    have hLv3 := s3 _ _ hLv2
    have hB3 := hB2.same s3
    generalize upd H2 Nm (.lst []) = H3 at *
    refine ⟨_, rfl, by show 2 ≤ sizeLine; decide, fun p np => ⟨p, h, 0, rfl, upd_same, h8, by decide, fun H4 lb s4 nlb hlb => ⟨lb, rfl, ⟨_, SqL.of hlb⟩, ?_⟩⟩⟩
    have s34 := (same_upd (o := HO.tup [.int (h : Nat), .int 0]) np).trans s4
    have hB4 := hB3.same s34
    have nlb3 : H3 lb = none := (same_upd (o := HO.tup [.int (h : Nat), .int 0]) np).free nlb
    have nlbL : lb ≠ Lv := fun e => by rw [e, hLv3] at nlb3; cases nlb3
    have nlbN : lb ≠ Nm := fun e => by rw [e, hNm3] at nlb3; cases nlb3
    have nlbb := hB3.nb nlb3
    have i0 : LvI b g Lv Nm H H4 0 [] := ⟨((bl1.trans (.same s2)).trans (.same s3)).trans (.same s34), hB4, ⟨[], s34 _ _ hLv3, .nil⟩, s34 _ _ hNm3, rfl, by simp, by decide⟩
    refine for_it (walk_list (xs := nN (benL h 0))) (fun i σ G => ∃ y5 y6 ls, σ = [some (.ref b), some (.int (m : Nat)), some (.int (h : Nat)), some (.ref Lv), some (.ref Nm), y5, y6, none, none, none, none, none, none] ∧ LvI b g Lv Nm H G i ls ∧ G lb = some (.lst (nN (benL h 0)))) ⟨_, _, _, rfl, i0, hlb⟩ (fun i σ G _ hG => ?_) ?_ ?_
    · obtain ⟨_, _, _, _, _, h⟩ := hG
      exact .of h
    · rintro i y σ G G' hi ⟨y5, y6, ls, rfl, I, hlb⟩ ⟨rfl, hy⟩
      rw [nN_len, ben_len] at hi
      have hp8 := pow8 h8
      refine ⟨_, rfl, b, g, rfl, I.hb, fun G1 z bl5 hB5 hz => ?_⟩
      have I1 := I.step bl5 hB5 nLb nNb
      have hlb1 := bl5 _ _ (by simpa using nlbb) hlb
      refine ⟨_, rfl, b, g, 3, rfl, hB5, by decide, by decide, fun G2 r bl6 hB6 r0 r1 => ⟨_, _, rfl, rfl, _, rfl, ?_⟩⟩
      have I2 := I1.step bl6 hB6 nLb nNb
      have hlb2 := bl6 _ _ (by simpa using nlbb) hlb1
      obtain ⟨vs, e1, e2⟩ := I2.vs
      have lvs : vs.length < sizeLine := Nat.lt_of_le_of_lt (show vs.length ≤ 256 by rw [Paired.len e2, I2.len]; omega) (by decide)
      have lnm : (wds ls).length ≤ 256 := by
        have h1 := List.length_filterMap_le (f := (id : Lf → Lf)) (l := ls)
        have h2 := I2.len
        unfold wds
        rw [List.length_map]
        omega
      refine ite2 (fun _ => ?_) (fun _ => ⟨_, rfl, .inl ⟨rfl, _, SqL.of e1⟩, Lv, _, _, rfl, rfl, e1, lvs, _, _, _, rfl, I2.addN nLH nLb nLg nNL e1 e2, by rw [upd_ne nlbL]; exact hlb2⟩)
      refine ⟨_, rfl, _, rfl, rNotIn_strs I2.nm hz (wds_word I2.gl) ⟨_, rfl, ?_⟩⟩
      refine ite2 (fun hnz => ?_) (fun _ => ⟨_, rfl, .inl ⟨rfl, _, SqL.of e1⟩, Lv, _, _, rfl, rfl, e1, lvs, _, _, _, rfl, I2.addN nLH nLb nLg nNL e1 e2, by rw [upd_ne nlbL]; exact hlb2⟩)
      have hnz : z ∉ wds ls := by simpa using hnz
      refine ⟨_, rfl, .inl ⟨rfl, _, SqL.of I2.nm⟩, _, rfl, Nm, _, _, rfl, rfl, I2.nm, by rw [List.length_map]; exact Nat.lt_of_le_of_lt lnm (by decide), ?_⟩
      have tk3 : TK G2 (upd G2 Nm (.lst ((wds ls).map V.str ++ [.str z]))) := .upd I2.nm (fun _ e => by cases e)
      have hN3 : (upd G2 Nm (.lst ((wds ls).map V.str ++ [.str z]))) Nm = some (.lst ((wds ls).map V.str ++ [.str z])) := upd_same
      have hL3 : (upd G2 Nm (.lst ((wds ls).map V.str ++ [.str z]))) Lv = some (.lst vs) := by rw [upd_ne (Ne.symm nNL)]; exact e1
      have hl3 : (upd G2 Nm (.lst ((wds ls).map V.str ++ [.str z]))) lb = some (.lst (nN (benL h 0))) := by rw [upd_ne nlbN]; exact hlb2
      have bl3 := I2.bl.put (o := .lst ((wds ls).map V.str ++ [.str z])) nNH
      have hB3' := I2.hb.put (o := .lst ((wds ls).map V.str ++ [.str z])) nNb nNg
      have e3 := Paired.mapP e2 fun _ _ r => r.tk tk3
      generalize upd G2 Nm (.lst ((wds ls).map V.str ++ [.str z])) = G3 at *
      refine ⟨_, rfl, .inl ⟨rfl, _, SqL.of hL3⟩, _, rfl, _, rfl, b, g, rfl, hB3', fun G4 r bl4 hB4' r0 r1 => ⟨by show 2 ≤ sizeLine; decide, fun p np => ?_⟩⟩
      have tk4 := hB3'.tk bl4
      have s5 := same_upd (o := HO.tup [.str z, .int r]) np
      have hp5 : (upd G4 p (.tup [.str z, .int r])) p = some (.tup [.str z, .int r]) := upd_same
      have hL5 := s5 _ _ (bl4 _ _ (by simpa using nLb) hL3)
      have hN5 := s5 _ _ (bl4 _ _ (by simpa using nNb) hN3)
      have hl5 := s5 _ _ (bl4 _ _ (by simpa using nlbb) hl3)
      have tk5 := tk4.trans (.same s5)
      exact ⟨Lv, _, _, rfl, rfl, hL5, lvs, _, _, _, rfl, LvI.addS ((bl3.trans bl4).trans (.same s5)) (hB4'.same s5) nLH nLb nLg nNL hL5 (Paired.mapP e3 fun _ _ r => r.tk tk5) hN5 I2.len I2.gl I2.nd hnz hz r0 r1 hp5, by rw [upd_ne nlbL]; exact hl5⟩
    · rintro σ G ⟨y5, y6, ls, rfl, I, hlb⟩
      rw [nN_len, ben_len] at I
      obtain ⟨vs, e1, e2⟩ := I.vs
      refine ⟨Nat.zero_le _, fun Nl nNl => ?_⟩
      have s6 := same_upd (o := HO.lst []) nNl
      have nNlb := I.hb.nb nNl
      have nNlg := I.hb.ng nNl
      have nNlH := I.bl.nw nNl (by simpa using nNlb)
      have nLN : Lv ≠ Nl := fun e => by rw [e, nNl] at e1; cases e1
      have hN6 : (upd G Nl (.lst [])) Nl = some (.lst []) := upd_same
      have D0 : NdI b g Lv Nl H (upd G Nl (.lst [])) h ls [] 1 0 := ⟨I.bl.trans (.same s6), I.hb.same s6, ⟨vs, s6 _ _ e1, Paired.mapP e2 fun _ _ r => r.tk (.same s6)⟩, ⟨[], hN6, .nil⟩, by simp, rfl, by simp, Nat.zero_le _⟩
      have hL6 := s6 _ _ e1
      have lvl : vs.length = 2 ^ h := by rw [Paired.len e2, I.len]
      generalize upd G Nl (.lst []) = G6 at *
      refine ⟨_, rfl, Lv, vs, rfl, .inl (.of hL6), ?_⟩
      rw [lvl]
      refine ⟨_, rfl, _, _, rfl, rfl, _, _, rfl, ⟨by decide, by decide, by omega, by omega⟩, ?_⟩
      refine for_it (walk_range (lo := 1)) (fun i σ G => ∃ y5 y6 y9 y10 y11 y12 ns Mi, σ = [some (.ref b), some (.int (m : Nat)), some (.int (h : Nat)), some (.ref Lv), some (.ref Nm), y5, y6, some (.ref Nl), some (.int Mi), y9, y10, y11, y12] ∧ Mi = ((2 ^ (h - i) : Nat) : Int) ∧ NdI b g Lv Nl H G h ls ns (i + 1) 0) ⟨_, _, _, _, _, _, _, _, rfl, rfl, D0⟩ (fun i σ G _ hG => trivial) ?_ ?_
      · rintro i y σ G1 G2 hi ⟨y5, y6, y9, y10, y11, y12, ns, Mi, rfl, hMi, D1⟩ ⟨rfl, hy⟩
        have hi : i < h := by omega
        obtain rfl : y = .int ((i + 1 : Nat) : Int) := hy.trans (congrArg V.int (by omega))
        obtain ⟨M, hM⟩ : ∃ M, M = 2 ^ (h - (i + 1)) := ⟨_, rfl⟩
        have hM2 : Mi = 2 * (M : Int) := by
          rw [hMi, hM, show h - i = (h - (i + 1)) + 1 by omega, Nat.pow_succ]
          omega
        have hM3 : M ≤ 128 := by
          rw [hM]
          exact Nat.le_trans (Nat.pow_le_pow_right (by decide) (show h - (i + 1) ≤ 7 by omega)) (by decide)
        have eM : Mi / 2 = ((M : Nat) : Int) := by omega
        refine ⟨_, rfl, _, _, rfl, rfl, ⟨by decide, by decide⟩, ?_⟩
        refine ⟨_, rfl, Mi / 2, rfl, by omega, by omega, ?_⟩
        refine for_it (walk_range (lo := 0)) (fun j σ G => ∃ y5 y10 y11 y12 ns, σ = [some (.ref b), some (.int (m : Nat)), some (.int (h : Nat)), some (.ref Lv), some (.ref Nm), y5, y6, some (.ref Nl), some (.int (Mi / 2)), some (.int ((i + 1 : Nat) : Int)), y10, y11, y12] ∧ NdI b g Lv Nl H G h ls ns (i + 1) j) ⟨_, _, _, _, _, rfl, D1⟩ (fun i σ G _ hG => trivial) ?_ ?_
        · rintro j y σ G3 G4 hj ⟨y5, y10, y11, y12, ns, rfl, D3⟩ ⟨rfl, hy⟩
          have hj : j < M := by omega
          obtain rfl : y = .int ((j : Nat) : Int) := hy.trans (congrArg V.int (by omega))
          refine ⟨_, rfl, b, g, 2, rfl, D3.hb, by decide, by decide, fun G5 r bl5 hB5 r0 r1 => ⟨rfl, _, rfl, ?_⟩⟩
          have D5 := D3.step bl5 hB5 nLb nNlb
          refine ite2 (fun _ => ?_) (fun _ => ⟨_, _, _, _, _, rfl, D5.weak⟩)
          refine ⟨_, rfl, _, rfl, by show 2 ≤ sizeLine; decide, fun p np => ⟨p, i + 1, j, rfl, upd_same, by omega, by omega, fun G6 l2 s6 nl2 hl2 => ⟨l2, rfl, ⟨_, SqL.of hl2⟩, fun D nD => ?_⟩⟩⟩
          have s56 := (same_upd (o := HO.tup [.int ((i + 1 : Nat) : Int), .int ((j : Nat) : Int)]) np).trans s6
          have nl25 : G5 l2 = none := (same_upd (o := HO.tup [.int ((i + 1 : Nat) : Int), .int ((j : Nat) : Int)]) np).free nl2
          have nl2b := hB5.nb nl25
          have D6 := D5.step (.same s56) (hB5.same s56) nLb nNlb
          obtain ⟨vs, e1, e2⟩ := D6.vs
          have bl8 : (benL (i + 1) j).length ≤ 256 := by rw [ben_len]; exact pow8 (by omega)
          refine lcB (walk_list (xs := nN (benL (i + 1) j))) (fun q acc => ∃ js, acc = nN js ∧ js.Sublist ((benL (i + 1) j).take q) ∧ ∀ x ∈ js, ∃ z, ls[x]? = some (some z)) (Nat.lt_of_le_of_lt (show (nN (benL (i + 1) j)).length ≤ 256 by rw [nN_len]; exact bl8) (by decide)) nD D6.hb (fun G' bl' _ => .of (bl' _ _ (by simpa using nl2b) hl2)) ⟨[], rfl, by simp, by simp⟩ ?_ ?_
          · rintro q x G7 G8 Q' N' acc hq bl7 hB7 ⟨js, rfl, hsub, hjs⟩ ⟨rfl, hx⟩ hy hn
            obtain ⟨c, hc, rfl⟩ := nN_at hx
            have hcl : c < ls.length := by
              rw [I.len]
              exact ben_lt (List.mem_of_getElem? hc) (by rw [← hM]; exact hj) (by omega)
            obtain ⟨v, hv, hl⟩ := Paired.at e2 (List.getElem?_eq_getElem hcl)
            refine ⟨rfl, _, rfl, _, rfl, Lv, vs, _, v, rfl, rfl, .of (bl7 _ _ (by simpa using nLb) e1), atI_nat hv, rfl, _, rfl, ?_⟩
            rw [nonN, lf_non hl]
            cases el : ls[c] with
            | none => exact iteF (hn ⟨js, rfl, sub_skip hsub hc, hjs⟩ _ .refl hB7)
            | some z =>
              refine iteT ⟨_, rfl, hy _ _ .refl hB7 ⟨js ++ [c], by unfold nN; rw [List.map_append]; rfl, sub_snoc hsub hc, fun x hx => ?_⟩⟩
              rcases List.mem_append.mp hx with w | w
              · exact hjs x w
              · rw [List.mem_singleton.mp w]
                exact ⟨z, by rw [List.getElem?_eq_getElem hcl, el]⟩
          · rintro G8 acc bl8 hB8 hD8 ⟨js, rfl, hsub, hjs⟩ hlen
            have nDb := D6.hb.nb nD
            have nDH := D6.bl.nw nD (by simpa using nDb)
            refine ⟨_, rfl, D, rfl, ⟨_, SqL.of hD8⟩, fun D2 nD2 => ?_⟩
            refine lcB (walk_list (xs := nN js)) (fun q acc => ∃ ks, acc = nN ks ∧ ks.Sublist (js.take q)) (Nat.lt_of_le_of_lt (show (nN js).length ≤ 256 by rw [nN_len] at hlen ⊢; rw [nN_len] at hlen; omega) (by decide)) nD2 hB8 (fun G' bl' _ => .of (bl' _ _ (by simpa using nDb) hD8)) ⟨[], rfl, by simp⟩ ?_ ?_
            · rintro q x G9 G10 Q' N' acc hq bl9 hB9 ⟨ks, rfl, hsub2⟩ ⟨rfl, hx⟩ hy hn
              obtain ⟨c, hc, rfl⟩ := nN_at hx
              refine ⟨rfl, _, rfl, b, g, 4, rfl, hB9, by decide, by decide, fun G11 r bl11 hB11 r0 r1 => ⟨rfl, _, rfl, ?_⟩⟩
              refine ite2 (fun _ => ⟨_, rfl, hy _ _ bl11 hB11 ⟨ks ++ [c], by unfold nN; rw [List.map_append]; rfl, sub_snoc hsub2 hc⟩⟩) (fun _ => hn ⟨ks, rfl, sub_skip hsub2 hc⟩ _ bl11 hB11)
            · rintro G9 acc bl9 hB9 hD9 ⟨ks, rfl, hsub2⟩ _
              refine .inl ⟨D2, _, rfl, .of hD9, fun t nt => ?_⟩
              have st := same_upd (o := HO.tup (nN ks)) nt
              have ht : (upd G9 t (.tup (nN ks))) t = some (.tup (nN ks)) := upd_same
              have D10 := D6.step ((bl8.trans bl9).trans (.same st)) (hB9.same st) nLb nNlb
              generalize upd G9 t (.tup (nN ks)) = G10 at *
              obtain ⟨ws, f1, f2⟩ := D10.ws
              refine ⟨_, rfl, .inl ⟨rfl, _, SqL.of f1⟩, _, rfl, _, rfl, by show 2 ≤ sizeLine; decide, fun p1 np1 => ?_⟩
              have s11 := same_upd (o := HO.tup [.int ((i + 1 : Nat) : Int), .int ((j : Nat) : Int)]) np1
              have hp1 : (upd G10 p1 (.tup [.int ((i + 1 : Nat) : Int), .int ((j : Nat) : Int)])) p1 = some (.tup [.int ((i + 1 : Nat) : Int), .int ((j : Nat) : Int)]) := upd_same
              have D11 := D10.step (.same s11) (D10.hb.same s11) nLb nNlb
              have ht11 := s11 _ _ ht
              refine ⟨_, rfl, b, g, rfl, D11.hb, fun G12 r bl12 hB12 r0 r1 => ⟨_, rfl, by show 3 ≤ sizeLine; decide, fun p2 np2 => ?_⟩⟩
              have tk12 := D11.hb.tk bl12
              have D12 := D11.step bl12 hB12 nLb nNlb
              have s13 := same_upd (o := HO.tup [.ref p1, .int r, .ref t]) np2
              have hp2 : (upd G12 p2 (.tup [.ref p1, .int r, .ref t])) p2 = some (.tup [.ref p1, .int r, .ref t]) := upd_same
              have D13 := D12.step (.same s13) (hB12.same s13) nLb nNlb
              obtain ⟨ws3, h1, h2⟩ := D13.ws
              have sub := hsub2.trans ((List.take_sublist _ _).trans (hsub.trans (List.take_sublist _ _)))
              refine ⟨Nl, ws3, _, rfl, rfl, h1, Nat.lt_of_le_of_lt (show ws3.length ≤ 2000 by rw [Paired.len h2]; have := D13.nl; omega) (by decide), _, _, _, _, _, rfl, D13.add (n := ((i + 1, j), (r, ks))) nNlH nNlb nNlg nLN h1 h2 ⟨p2, p1, t, rfl, hp2, s13 _ _ (tk12 _ _ hp1), s13 _ _ (tk12 _ _ ht11)⟩ ⟨by show 1 ≤ i + 1; omega, by show i + 1 ≤ h; omega, by show j < 2 ^ (h - (i + 1)); rw [← hM]; exact hj, r0, r1, (ben_pw (i + 1) j).sublist sub, ?_, fun c hc => ⟨(ben_mem (sub.subset hc)).1, hjs c (((hsub2.trans (List.take_sublist _ _)).subset hc))⟩⟩ rfl rfl⟩
              have := sub.length_le
              rw [ben_len] at this
              exact Nat.le_trans this (pow8 (by omega))
        · rintro σ G3 ⟨y5, y10, y11, y12, ns, rfl, D3⟩
          have e : (Mi / 2).toNat = M := by omega
          have D3 := e ▸ D3
          exact ⟨_, _, _, _, _, _, _, _, rfl, eM.trans (by rw [hM]), D3.next (by omega) (by omega)⟩
      · rintro σ G7 ⟨y5, y6, y9, y10, y11, y12, ns, Mi, rfl, _, D7⟩
        have en : (((h : Nat) : Int) + 1 - 1).toNat = h := by omega
        obtain ⟨vs, e1, e2⟩ := D7.vs
        obtain ⟨ws, f1, f2⟩ := D7.ws
        refine ⟨_, rfl, _, rfl, .inl ⟨Lv, vs, rfl, .of e1, fun la nla => ?_⟩⟩
        have s8 := same_upd (o := HO.tup vs) nla
        refine ⟨_, rfl, .inl ⟨Nl, ws, rfl, .of (s8 _ _ f1), fun na nna => ⟨by show 3 ≤ sizeLine; decide, fun p np => ?_⟩⟩⟩
        have s9 := same_upd (o := HO.tup ws) nna
        have s10 := same_upd (o := HO.lst [.int (h : Nat), .ref la, .ref na]) np
        have s := s8.trans (s9.trans s10)
        have tk : TK G7 _ := .same s
        have npb := ((D7.hb.same s8).same s9).nb np
        refine q _ p la na h ls ns (D7.bl.trans (.same s)) (D7.hb.same s) ((D7.bl.trans (.same (s8.trans s9))).nw np (by simpa using npb)) upd_same ⟨vs, s10 _ _ (s9 _ _ upd_same), Paired.mapP e2 fun _ _ r => r.tk tk⟩ ⟨ws, s10 _ _ upd_same, Paired.mapP f2 fun _ _ r => r.tk tk⟩ ⟨h8, I.len, I.gl, I.nd, D7.gn, D7.asc, ?_⟩
        have := D7.nl
        omega
end
end L2.My
end
section
set_option Elab.async false
set_option linter.all false
set_option maxRecDepth 100000
set_option maxHeartbeats 4000000
/-! The law's own judges: members, a node. -/
namespace L2.My
open PySem PySem.Spec PyProof.Rows
abbrev sMbs : Stmt := top 53
abbrev sLnd : Stmt := top 54
def chainM (H : Hp) : List Str → List V → Bool
  | _, [] => true
  | nm, x :: r => if notNon x = true then (if (memB H x && !decide (nameV H x ∈ nm)) = true then chainM H (nm ++ [nameV H x]) r else false) else chainM H nm r
theorem chainM_cons {H : Hp} {nm : List Str} {x : V} {r : List V} : chainM H nm (x :: r) = if notNon x = true then (if (memB H x && !decide (nameV H x ∈ nm)) = true then chainM H (nm ++ [nameV H x]) r else false) else chainM H nm r := rfl
theorem nodeB_no {H : Hp} {h : Nat} {v : V} (e : pairB H v = false) : nodeB H h v = false := by
  unfold pairB at e
  unfold nodeB
  split <;> simp_all
theorem chainM_eq {H : Hp} : ∀ {xs : List V} {nm : List Str}, nm.Nodup → chainM H nm xs = ((xs.filter notNon).all (memB H) && decide ((nm ++ (xs.filter notNon).map (nameV H)).Nodup))
  | [], nm, h => by
    show true = (true && decide ((nm ++ []).Nodup))
    rw [List.append_nil, decide_eq_true h]; rfl
  | x :: r, nm, h => by
    unfold chainM
    cases hx : notNon x with
    | false =>
      rw [if_neg Bool.false_ne_true, chainM_eq h, List.filter_cons_of_neg (by rw [hx]; exact Bool.false_ne_true)]
    | true =>
      rw [if_pos rfl, List.filter_cons_of_pos hx, List.all_cons, List.map_cons]
      cases hm : memB H x with
      | false => rfl
      | true =>
        rw [Bool.true_and, Bool.true_and]
        by_cases hn : nameV H x ∈ nm
        · rw [decide_eq_true hn, Bool.not_true, if_neg Bool.false_ne_true]
          have : ¬ (nm ++ nameV H x :: (r.filter notNon).map (nameV H)).Nodup := fun z => by
            rw [List.nodup_append] at z
            exact z.2.2 _ hn _ List.mem_cons_self rfl
          rw [decide_eq_false this, Bool.and_false]
        · rw [decide_eq_false hn, Bool.not_false, if_pos rfl, chainM_eq (nodup_snoc.mpr ⟨h, hn⟩), List.append_assoc]
          rfl
theorem betw_num {b : Addr} {H : Hp} {v : V} (h : Thg b H v) : betw 0 ((10 : Int) ^ (Int.toNat 60)) v = numV v := by
  cases v with
  | int i =>
    have h1 := h.le
    have h2 : maxI ≤ (10 : Int) ^ (Int.toNat 60) := by decide
    show decide (0 ≤ i ∧ i ≤ (10 : Int) ^ (Int.toNat 60)) = decide (0 ≤ i)
    exact decide_eq_decide.mpr ⟨fun z => z.1, fun z => ⟨z, by omega⟩⟩
  | _ => rfl
def spMbs : Sp := fun vs H Q _ => ∃ (b : Addr) (h : Nat) (v : V), vs = [.int (h : Int), v] ∧ h ≤ 8 ∧ Thg b H v ∧ ∀ H', Same H H' → Q (.bl (leavesB H h v)) H'
def spLnd : Sp := fun vs H Q _ => ∃ (b : Addr) (h : Nat) (v : V), vs = [v, .int (h : Int)] ∧ h ≤ 8 ∧ Thg b H v ∧ ∀ H', Same H H' → Q (.bl (nodeB H h v && decide (levV H v ≠ 0))) H'
theorem memB_two {H : Hp} {a : Addr} {x y : V} (h : H a = some (.tup [x, y])) : memB H (.ref a) = (wordV x && numV y) := memB_at (tupOf_at h)
theorem word_str {x : V} (h : wordV x = true) : ∃ z, x = .str z ∧ wordB z = true := by
  cases x with
  | str z => exact ⟨z, rfl, h⟩
  | _ => cases h
section
variable {P : Program} {w : World} {K : PySem.W.Frag} {mg : Str → Option Value} {base : Heap}
theorem scMbs : FnScope ["height", "leaves", "names", "leaf"] ["height", "leaves"] (defScope sMbs) := ⟨rfl, rfl, rfl, by decide +kernel, rfl, by decide +kernel, by decide +kernel⟩
theorem ok_mbs {f : Addr} {fd : FuncData} {k : Nat} (F : Fun K "_law_members" "_law_members" sMbs f fd) (T : Tx mg) (cB : Cal P w K mg base (k + 1) "_law_beneath" ["node"] spBen) (cN : Cal P w K mg base (k + 1) "_law_named" ["thing"] spWord) (cI : Cal P w K mg base (k + 1) "_law_int" ["thing", "least", "most"] spLint) : FnOk P w K mg base CX0 (k + 2) f fd ["height", "leaves"] spMbs := by
  refine F.ok scMbs (fun vs H Q E h => ?_) (fun cdv A outer s H vs Q E hr h => ?_)
  · obtain ⟨b, h, v, rfl, _⟩ := h
    rfl
  · obtain ⟨b, h, v, rfl, hh, hv, q⟩ := h
    obtain ⟨t, ht⟩ := hv.th
    refine ⟨_, (pss_cons (ps_if (pt_or (pt_not (pt_val (pe_callB call_isTh (by rfl) T.isi (by decide +kernel) (pa_cons (pv 1) (pa_cons (pe_bltn (v := .ty "tuple") (u := .type "tuple") (by rfl) T.tuple_ (by decide +kernel) rfl) pa_nil))))) (pw_or1 (pt_cmpR op_ne (pe_callB call_len_seq (by rfl) T.len_ PySem.boot_len (pa_cons (pv 1) pa_nil)) (pe_callB call_len_seq (by rfl) T.len_ PySem.boot_len (pa_cons (pe_c cB hr (by omega) (by rfl) (pa_cons (pe_tup (pa_cons (pv 0) (pa_cons pe_int pa_nil))) pa_nil)) pa_nil)) (nomark _)))) (pss_one (ps_ret pe_bl)) pss_nil) (pss_cons (ps_set (i := 2) scMbs.nd rfl (Or.inl rfl) (pe_lst pa_nil)) (pss_cons (ps_for PassesOwn.never rfl (pi_tup (pv 1)) (pg_name (i := 3) scMbs.nd rfl (Or.inl rfl)) (pss_one (ps_if (pt_cmpR op_notN (pv 3) pe_non (nomark _)) (pss_cons (ps_if (pt_or (pt_not (pt_val (pe_callB call_isTh (by rfl) T.isi (by decide +kernel) (pa_cons (pv 3) (pa_cons (pe_bltn (v := .ty "tuple") (u := .type "tuple") (by rfl) T.tuple_ (by decide +kernel) rfl) pa_nil))))) (pw_or (pt_cmpR op_ne (pe_callB call_len_seq (by rfl) T.len_ PySem.boot_len (pa_cons (pv 3) pa_nil)) pe_int (nomark _)) (pw_or1 (pt_not (pt_val (pe_c cN hr (by omega) (by rfl) (pa_cons (pe_ix ix_tup (pv 3) pe_int (fun _ _ => rfl)) pa_nil))))))) (pss_one (ps_ret pe_bl)) pss_nil) (pss_cons (ps_if (pt_or (pt_not (pt_val (pe_c cI hr (by omega) (by rfl) (pa_cons (pe_ix ix_tup (pv 3) pe_int (fun _ _ => rfl)) (pa_cons pe_int (pa_cons (pe_op op_pow pe_int pe_int) pa_nil)))))) (pw_or1 (pt_cmpR (op_inD (u65 hr)) (pe_ix ix_tup (pv 3) pe_int (fun _ _ => rfl)) (pv 2) rfl))) (pss_one (ps_ret pe_bl)) pss_nil) (pss_one (ps_expr (pe_bm PySem.F.plainAttrs_list PySem.F.slot_list_append PySem.F.type_list_append mt_append (pv 2) (pa_cons (pe_ix ix_tup (pv 3) pe_int (fun _ _ => rfl)) pa_nil)))))) pss_nil))) (pss_one (ps_ret pe_bl))))), ?_⟩
    refine ⟨_, rfl, _, "tuple", t, rfl, ht, by decide, _, rfl, ?_⟩
    rcases tup_cases ht with ⟨a, xs, rfl, hx, e, rfl⟩ | ⟨e1, e2⟩
    rotate_left
    · rw [e2]
      rw [leavesB_no e1] at q
      exact iteT (q _ (Same.refl _))
    obtain ⟨hl, hxs⟩ := hv.sub hx
    rw [leavesB_at e] at q
    refine iteF ⟨_, rfl, a, xs, rfl, .inr (.of hx), _, rfl, by show 2 ≤ sizeLine; decide, fun p np => ⟨p, h, 0, rfl, upd_same, hh, by decide, fun H2 lb s2 nlb hlb => ⟨lb, _, rfl, .inl (.of hlb), rfl, _, rfl, ?_⟩⟩⟩
    have s12 := (same_upd (o := HO.tup [.int (h : Nat), .int 0]) np).trans s2
    have hd : decide (V.int (xs.length : Nat) = V.int ((nN (benL h 0)).length : Nat)) = decide (xs.length = 2 ^ h) := by
      rw [dec_int, nN_len, ben_len, Bool.eq_iff_iff, beq_iff_eq, decide_eq_true_iff]
      omega
    rw [hd]
    by_cases hlen : xs.length = 2 ^ h
    rotate_left
    · rw [decide_eq_false hlen, Bool.false_and] at q
      rw [decide_eq_false hlen]
      exact iteT (q _ s12)
    rw [decide_eq_true hlen, Bool.true_and] at q
    rw [decide_eq_true hlen]
    have h256 : xs.length ≤ 256 := by rw [hlen]; exact pow8 hh
    have key := chainM_eq (H := H) (xs := xs) (nm := []) List.nodup_nil
    rw [List.nil_append] at key
    rw [← key] at q
    refine iteF ⟨Nat.zero_le _, fun Nm nNm => ?_⟩
    have s3 := s12.trans (same_upd (o := HO.lst []) nNm)
    have nNmH := s12.free nNm
    refine ⟨_, rfl, a, rfl, ⟨_, SqT.of (s3 _ _ hx)⟩, ?_⟩
    refine for_it (walk_tup (xs := xs)) (fun i σ G => ∃ y3 nm, σ = [some (.int (h : Nat)), some (.ref a), some (.ref Nm), y3] ∧ Same H G ∧ G Nm = some (.lst (nm.map V.str)) ∧ nm.length ≤ i ∧ (∀ z ∈ nm, wordB z = true) ∧ chainM H [] xs = chainM H nm (xs.drop i)) ⟨_, [], rfl, s3, upd_same, Nat.le_refl _, by simp, rfl⟩ (fun i σ G _ hG => ?_) ?_ ?_
    · obtain ⟨_, _, _, sG, _⟩ := hG
      exact .of (sG _ _ hx)
    · rintro i y σ G G' hi ⟨y3, nm, rfl, sG, hN, hnl, hw, hc⟩ ⟨rfl, hy⟩
      obtain ⟨hi', hy'⟩ := List.getElem?_eq_some_iff.mp hy
      have ed : xs.drop i = y :: xs.drop (i + 1) := by rw [← hy']; exact List.drop_eq_getElem_cons hi'
      rw [ed, chainM_cons] at hc
      have ty := hxs y (List.mem_of_getElem? hy)
      refine ⟨_, rfl, rfl, _, rfl, ?_⟩
      rw [nonN]
      cases hn : notNon y with
      | false =>
        rw [hn, if_neg Bool.false_ne_true] at hc
        exact iteF ⟨_, nm, rfl, sG, hN, by omega, hw, hc⟩
      | true =>
      rw [hn, if_pos rfl] at hc
      refine iteT ?_
      have bad : (memB H y && !decide (nameV H y ∈ nm)) = false → ∀ G2, Same H G2 → Q (.bl false) G2 := fun e G2 s => by
        rw [e, if_neg Bool.false_ne_true] at hc
        rw [hc] at q
        exact q _ s
      obtain ⟨t2, ht2⟩ := (ty.same sG).th
      refine ⟨_, rfl, _, "tuple", t2, rfl, ht2, by decide, _, rfl, ?_⟩
      rcases tup_cases ht2 with ⟨c, ys, rfl, hc1, e1, rfl⟩ | ⟨e1, e2⟩
      rotate_left
      · rw [e2]
        have e3 : memB H y = false := by
          have : tupOf H y = none := by rw [← tupOf_bl ty (.same sG)]; exact e1
          unfold memB; rw [this]
        exact iteT (bad (by rw [e3]; rfl) _ sG)
      have e0 : tupOf H (.ref c) = some ys := by rw [← tupOf_bl ty (.same sG)]; exact e1
      refine iteF ⟨_, rfl, c, ys, rfl, .inr (.of hc1), rfl, _, rfl, ?_⟩
      rw [← pairB_at e0]
      cases hp : pairB H (.ref c) with
      | false => exact iteT (bad (by rw [memB_no hp]; rfl) _ sG)
      | true =>
      obtain ⟨c', x1, x2, ec, hcc, ep, tx1, tx2⟩ := pair_of ty hp
      cases ec
      have em := memB_at ep
      rw [e0] at ep
      cases ep
      refine iteF ⟨_, rfl, c, _, _, x1, rfl, rfl, .of hc1, atI_nat (j := 0) rfl, b, x1, rfl, tx1.same sG, fun G2 s2 => ⟨_, rfl, ?_⟩⟩
      have sG2 := sG.trans s2
      cases hw1 : wordV x1 with
      | false => exact iteT (bad (by rw [em, hw1]; rfl) _ sG2)
      | true =>
      rw [hw1, Bool.true_and] at em
      obtain ⟨z, rfl, hz⟩ := word_str hw1
      have en : nameV H (.ref c) = z := by unfold nameV; rw [e0]
      refine iteF ⟨_, rfl, c, _, _, x2, rfl, rfl, .of (s2 _ _ hc1), atI_nat (j := 1) rfl, _, _, rfl, rfl, ⟨by decide, by decide, by decide⟩, b, x2, _, _, rfl, tx2.same sG2, _, rfl, ?_⟩
      rw [betw_num tx2]
      cases hnu : numV x2 with
      | false => exact iteT (bad (by rw [em, hnu]; rfl) _ sG2)
      | true =>
      rw [hnu] at em
      refine iteF ⟨_, rfl, c, _, _, .str z, rfl, rfl, .of (s2 _ _ hc1), atI_nat (j := 0) rfl, _, rfl, rIn_strs (s2 _ _ hN) hz hw ⟨_, rfl, ?_⟩⟩
      by_cases hin : z ∈ nm
      · rw [decide_eq_true hin]
        exact iteT (bad (by rw [en, decide_eq_true hin, Bool.not_true, Bool.and_false]) _ sG2)
      rw [decide_eq_false hin]
      rw [em, en, decide_eq_false hin, Bool.not_false, Bool.and_true, if_pos rfl] at hc
      refine iteF ⟨_, rfl, .inl ⟨rfl, _, SqL.of (s2 _ _ hN)⟩, _, rfl, c, _, _, .str z, rfl, rfl, .of (s2 _ _ hc1), atI_nat (j := 0) rfl, Nm, _, _, rfl, rfl, s2 _ _ hN, by rw [List.length_map]; exact Nat.lt_of_le_of_lt (show nm.length ≤ 256 by omega) (by decide), ?_⟩
      refine ⟨_, nm ++ [z], rfl, same_put sG2 nNmH, by rw [upd_same, List.map_append]; rfl, by rw [List.length_append, List.length_singleton]; omega, fun x hx => ?_, hc⟩
      rcases List.mem_append.mp hx with w | w
      · exact hw x w
      · rw [List.mem_singleton.mp w]; exact hz
    · rintro σ G ⟨y3, nm, rfl, sG, hN, hnl, hw, hc⟩
      rw [List.drop_length] at hc
      rw [hc] at q
      exact q _ sG
theorem scLnd : FnScope ["thing", "height"] ["thing", "height"] (defScope sLnd) := ⟨rfl, rfl, rfl, by decide +kernel, rfl, by decide +kernel, by decide +kernel⟩
theorem ok_lnd {f : Addr} {fd : FuncData} {k : Nat} (F : Fun K "_law_node" "_law_node" sLnd f fd) (T : Tx mg) (cB : Cal P w K mg base (k + 1) "_law_beneath" ["node"] spBen) (cI : Cal P w K mg base (k + 1) "_law_int" ["thing", "least", "most"] spLint) : FnOk P w K mg base CX0 (k + 2) f fd ["thing", "height"] spLnd := by
  refine F.ok scLnd (fun vs H Q E h => ?_) (fun cdv A outer s H vs Q E hr h => ?_)
  · obtain ⟨b, h, v, rfl, _⟩ := h
    rfl
  · obtain ⟨b, h, v, rfl, hh, hv, q⟩ := h
    obtain ⟨t, ht⟩ := hv.th
    refine ⟨_, (pss_cons (ps_if (pt_or (pt_not (pt_val (pe_callB call_isTh (by rfl) T.isi (by decide +kernel) (pa_cons (pv 0) (pa_cons (pe_bltn (v := .ty "tuple") (u := .type "tuple") (by rfl) T.tuple_ (by decide +kernel) rfl) pa_nil))))) (pw_or (pt_cmpR op_ne (pe_callB call_len_seq (by rfl) T.len_ PySem.boot_len (pa_cons (pv 0) pa_nil)) pe_int (nomark _)) (pw_or1 (pt_not (pt_val (pe_c cI hr (by omega) (by rfl) (pa_cons (pe_ix ix_tup (pv 0) pe_int (fun _ _ => rfl)) (pa_cons pe_int (pa_cons (pv 1) pa_nil))))))))) (pss_one (ps_ret pe_bl)) pss_nil) (pss_one (ps_ret (pe_c cI hr (by omega) (by rfl) (pa_cons (pe_ix ix_tup (pv 0) pe_int (fun _ _ => rfl)) (pa_cons pe_int (pa_cons (pe_op op_sub (pe_callB call_len_seq (by rfl) T.len_ PySem.boot_len (pa_cons (pe_c cB hr (by omega) (by rfl) (pa_cons (pe_tup (pa_cons (pe_op op_sub (pv 1) (pe_ix ix_tup (pv 0) pe_int (fun _ _ => rfl))) (pa_cons pe_int pa_nil))) pa_nil)) pa_nil)) pe_int) pa_nil))))))), ?_⟩
    have no : nodeB H h v = false → ∀ G, Same H G → Q (.bl false) G := fun e G s => by
      rw [e] at q
      exact q _ s
    refine ⟨_, rfl, _, "tuple", t, rfl, ht, by decide, _, rfl, ?_⟩
    rcases tup_cases ht with ⟨a, xs, rfl, hx, e, rfl⟩ | ⟨e1, e2⟩
    rotate_left
    · rw [e2]
      exact iteT (no (by unfold nodeB; rw [e1]) _ (Same.refl _))
    refine iteF ⟨_, rfl, a, xs, rfl, .inr (.of hx), rfl, _, rfl, ?_⟩
    rw [← pairB_at e]
    cases hp : pairB H (.ref a) with
    | false =>
      exact iteT (no (nodeB_no hp) _ (Same.refl _))
    | true =>
    obtain ⟨a', x1, x2, ea, ha, ep, tx1, tx2⟩ := pair_of hv hp
    cases ea
    rw [e] at ep
    cases ep
    have en : nodeB H h (.ref a) = (belowV ((h : Int) + 1) x1 && belowV ((2 : Int) ^ (h - iV x1)) x2) := by unfold nodeB; rw [e]
    have el : levV H (.ref a) = iV x1 := by unfold levV; rw [e]
    have ef : (belowV ((h : Int) + 1) x1 && decide (iV x1 ≠ 0)) = betw 1 (h : Int) x1 := by
      cases x1 with
      | int i =>
        show (decide (0 ≤ i ∧ i < (h : Int) + 1) && decide (i.toNat ≠ 0)) = decide (1 ≤ i ∧ i ≤ (h : Int))
        rw [← Bool.decide_and]
        exact decide_eq_decide.mpr (by omega)
      | _ => rfl
    refine iteF ⟨_, rfl, a, _, _, x1, rfl, rfl, .of hx, atI_nat (j := 0) rfl, _, rfl, b, x1, _, _, rfl, tx1, _, rfl, ?_⟩
    have eq : (nodeB H h (.ref a) && decide (levV H (.ref a) ≠ 0)) = (betw 1 (h : Int) x1 && belowV ((2 : Int) ^ (h - iV x1)) x2) := by
      rw [en, el, ← ef, Bool.and_assoc, Bool.and_assoc, Bool.and_comm (belowV ((2 : Int) ^ (h - iV x1)) x2)]
    rw [eq] at q
    cases hb : betw 1 (h : Int) x1 with
    | false =>
      rw [hb] at q
      exact iteT (q _ (Same.refl _))
    | true =>
    rw [hb, Bool.true_and] at q
    obtain ⟨l, rfl, hl⟩ : ∃ l : Nat, x1 = .int (l : Nat) ∧ 1 ≤ l ∧ l ≤ h := by
      cases x1 with
      | int i =>
        have := of_decide_eq_true (show decide (1 ≤ i ∧ i ≤ (h : Int)) = true from hb)
        exact ⟨i.toNat, congrArg V.int (by omega), by omega, by omega⟩
      | _ => cases hb
    have ei : iV (.int (l : Nat)) = l := Int.toNat_natCast l
    rw [ei] at q
    refine iteF ⟨_, rfl, a, _, _, x2, rfl, rfl, .of hx, atI_nat (j := 1) rfl, ?_⟩
    refine ⟨_, rfl, _, rfl, a, _, _, .int (l : Nat), rfl, rfl, .of hx, atI_nat (j := 0) rfl, _, _, rfl, rfl, by show 2 ≤ sizeLine; decide, fun p np => ?_⟩
    have es : ((h : Nat) : Int) - ((l : Nat) : Int) = ((h - l : Nat) : Int) := by omega
    dsimp only
    rw [es]
    refine ⟨p, h - l, 0, rfl, upd_same, by omega, by decide, fun H2 lb s2 nlb hlb => ⟨lb, _, rfl, .inl (.of hlb), _, _, rfl, rfl, b, x2, _, _, rfl, (tx2.same (same_upd np)).same s2, ?_⟩⟩
    have s12 := (same_upd (o := HO.tup [.int ((h - l : Nat) : Int), .int 0]) np).trans s2
    rw [nN_len, ben_len]
    have e9 : betw 0 (((2 ^ (h - l) : Nat) : Int) - 1) x2 = belowV ((2 : Int) ^ (h - l)) x2 := by
      cases x2 with
      | int i =>
        have e : ((2 : Int) ^ (h - l)) = ((2 ^ (h - l) : Nat) : Int) := by push_cast; rfl
        show decide (0 ≤ i ∧ i ≤ ((2 ^ (h - l) : Nat) : Int) - 1) = decide (0 ≤ i ∧ i < (2 : Int) ^ (h - l))
        rw [e]
        exact decide_eq_decide.mpr (by omega)
      | _ => rfl
    rw [e9]
    exact q _ s12
end
end L2.My
end
section
set_option Elab.async false
set_option linter.all false
set_option maxRecDepth 100000
set_option maxHeartbeats 4000000
/-! The law's own judges: asides, nodes, the first part that is none. -/
namespace L2.My
open PySem PySem.Spec PyProof.Rows
abbrev sLas : Stmt := top 55
abbrev sLns : Stmt := top 56
abbrev sLbd : Stmt := top 57
def condA (ls : List V) (lev at' : Nat) (x : V) : Bool := decide (iV x / 2 ^ lev = at') && notNon (ls.getD (iV x) .non)
def chainA (ls : List V) (lev at' : Nat) : Int → List V → Bool
  | _, [] => true
  | p, x :: r => (belowV (ls.length : Int) x && (ltI p (intV x) && condA ls lev at' x)) && chainA ls lev at' (intV x) r
theorem chainA_cons {ls : List V} {lev at' : Nat} {p : Int} {x : V} {r : List V} : chainA ls lev at' p (x :: r) = ((belowV (ls.length : Int) x && (ltI p (intV x) && condA ls lev at' x)) && chainA ls lev at' (intV x) r) := rfl
theorem band_perm (a b c d e f : Bool) : ((a && (b && c)) && (d && (e && f))) = ((a && d) && ((b && e) && (c && f))) := by
  cases a <;> cases b <;> cases c <;> cases d <;> cases e <;> rfl
theorem chainA_eq {ls : List V} {lev at' : Nat} : ∀ {xs : List V} {p : Int}, chainA ls lev at' p xs = (xs.all (belowV (ls.length : Int)) && (ascBy ltI (p :: xs.map intV) && xs.all (condA ls lev at')))
  | [], _ => rfl
  | x :: r, p => by
    rw [chainA_cons, chainA_eq, band_perm]
    rfl
theorem asideB_chain {H : Hp} {ls : List V} {lev at' : Nat} {v : V} {xs : List V} (e : tupOf H v = some xs) : asideB H ls lev at' v = chainA ls lev at' (-1) xs := by
  rw [asideB_at e, chainA_eq]
  cases xs with
  | nil => rfl
  | cons x r =>
    cases hb : (x :: r).all (belowV (ls.length : Int)) with
    | false => rfl
    | true =>
      rw [List.all_cons, Bool.and_eq_true] at hb
      obtain ⟨h1, _, h3⟩ := below_int hb.1
      have e : ltI (-1) (intV x) = true := decide_eq_true (by omega)
      show (true && (ascBy ltI (intV x :: r.map intV) && _)) = (true && ((ltI (-1) (intV x) && ascBy ltI (intV x :: r.map intV)) && _))
      rw [e, Bool.true_and (ascBy _ _)]
      rfl
def chainN (H : Hp) (h : Nat) (ls : List V) : List Int → List V → Bool
  | _, [] => true
  | p, x :: r => (keptB H h ls x && HT.lexLt p (rowI H x)) && chainN H h ls (rowI H x) r
theorem chainN_cons {H : Hp} {h : Nat} {ls : List V} {p : List Int} {x : V} {r : List V} : chainN H h ls p (x :: r) = ((keptB H h ls x && HT.lexLt p (rowI H x)) && chainN H h ls (rowI H x) r) := rfl
theorem chainN_eq {H : Hp} {h : Nat} {ls : List V} : ∀ {xs : List V} {p : List Int}, chainN H h ls p xs = (xs.all (keptB H h ls) && ascBy HT.lexLt (p :: xs.map (rowI H)))
  | [], _ => rfl
  | x :: r, p => by
    rw [chainN_cons, chainN_eq]
    show ((_ && _) && (_ && _)) = ((_ && _) && (_ && _))
    generalize keptB H h ls x = a
    generalize HT.lexLt p (rowI H x) = b
    generalize r.all (keptB H h ls) = c
    cases a <;> cases b <;> cases c <;> rfl
theorem nodesB_chain {b : Addr} {H : Hp} {h : Nat} {ls : List V} {v : V} {xs : List V} (t : ∀ x ∈ xs, Thg b H x) (e : tupOf H v = some xs) : nodesB H h ls v = chainN H h ls [0, 0] xs := by
  rw [nodesB_at e, chainN_eq]
  cases xs with
  | nil => rfl
  | cons x r =>
    cases hb : (x :: r).all (keptB H h ls) with
    | false => rfl
    | true =>
      rw [List.all_cons, Bool.and_eq_true] at hb
      obtain ⟨a, na, l, c, rfl, _, _, h4, h5, _, _, tn, _, _, h9⟩ := kept_of (t x List.mem_cons_self) hb.1
      obtain ⟨a2, _, _, _, _, _, h6⟩ := node_of tn h4
      have e : HT.lexLt [0, 0] (rowI H (.ref a)) = true := by
        rw [h9, h6, HT.lexLt_cons, if_neg (by omega), decide_eq_true_eq]
        omega
      show (true && ascBy HT.lexLt (rowI H (.ref a) :: r.map (rowI H))) = (true && (HT.lexLt [0, 0] (rowI H (.ref a)) && ascBy HT.lexLt (rowI H (.ref a) :: r.map (rowI H))))
      rw [e]
      rfl
theorem le2 (a b c d : Int) : Ob.lexAt (fun j => decide (([a, b] : List Int).getD j 0 = ([c, d] : List Int).getD j 0)) (fun j => decide (([a, b] : List Int).getD j 0 ≤ ([c, d] : List Int).getD j 0)) (decide (([a, b] : List Int).length ≤ ([c, d] : List Int).length)) 0 (min ([a, b] : List Int).length ([c, d] : List Int).length) = !HT.lexLt [c, d] [a, b] := by
  show Ob.lexAt _ _ _ 0 2 = _
  rw [Ob.lexAt_succ, Ob.lexAt_succ, Ob.lexAt_zero, HT.lexLt_cons, HT.lexLt_cons, HT.lexLt_nil_nil]
  show (if decide (a = c) = true then (if decide (b = d) = true then true else decide (b ≤ d)) else decide (a ≤ c)) = _
  by_cases h1 : a = c
  · rw [if_pos (decide_eq_true h1), if_pos h1.symm]
    by_cases h2 : b = d
    · rw [if_pos (decide_eq_true h2), if_pos h2.symm]; rfl
    · rw [if_neg (by simpa using h2), if_neg (Ne.symm h2)]
      by_cases h3 : d < b
      · rw [decide_eq_true h3, decide_eq_false (by omega)]; rfl
      · rw [decide_eq_false h3, decide_eq_true (by omega)]; rfl
  · rw [if_neg (by simpa using h1), if_neg (Ne.symm h1)]
    by_cases h3 : c < a
    · rw [decide_eq_true h3, decide_eq_false (by omega)]; rfl
    · rw [decide_eq_false h3, decide_eq_true (by omega)]; rfl
theorem dp_nats2 {K : PySem.W.Frag} {H : Hp} (l : List Nat) : DpAll K H (nN l) (l.map fun (j : Nat) => PyData.int j) := dpNats l
theorem any_nats (i : Nat) : ∀ l : List Nat, ((l.map fun (j : Nat) => PyData.int j).any fun y => PyData.eqv y (.int (i : Nat))) = decide (i ∈ l)
  | [] => rfl
  | y :: r => by
    rw [List.map_cons, List.any_cons, any_nats i r, eqv_int, ← Bool.decide_or]
    refine decide_eq_decide.mpr ?_
    rw [List.mem_cons]
    exact or_congr_left ⟨fun h => by omega, fun h => by omega⟩
theorem can_nats : ∀ l : List Nat, PyData.canLayAll0 (l.map fun (j : Nat) => PyData.int j) = true
  | [] => rfl
  | z :: r => by
    rw [List.map_cons, PyData.canLayAll0, can_nats r]
    rfl
theorem dep_nats : ∀ l : List Nat, PyData.depthAll (l.map fun (j : Nat) => PyData.int j) ≤ 1
  | [] => by decide
  | z :: r => by
    have := dep_nats r
    simp only [List.map_cons, PyData.depthAll, PyData.depth]
    omega
theorem shaped_nats (l : List Nat) : SeqAt.shaped (.list (l.map fun (j : Nat) => PyData.int j)) = true := by
  have h1 : PyData.canLay0 (.list (l.map fun (j : Nat) => PyData.int j)) = true := by rw [PyData.canLay0]; exact can_nats l
  have h2 := dep_nats l
  unfold SeqAt.shaped
  rw [h1, Bool.true_and]
  refine decide_eq_true ?_
  simp only [PyData.depth]
  omega
theorem shaped_int (i : Int) : SeqAt.shaped (.int i) = true := by
  unfold SeqAt.shaped
  rw [PyData.depth]
  rfl
theorem rNotIn_nats {K : PySem.W.Frag} {H : Hp} {a : Addr} {i : Nat} {l : List Nat} {Q : VK} (h : H a = some (.lst (nN l))) (q : Q (.bl (!decide (i ∈ l))) H) : rNotInD K (.int (i : Nat)) (.ref a) H Q :=
  ⟨.int (i : Nat), l.map fun (j : Nat) => PyData.int j, .int _, .lst (.of h) (dpNats l), shaped_int _, shaped_nats l, by rw [any_nats]; exact q⟩
theorem mem_ben {lev idx j : Nat} : j ∈ benL lev idx ↔ j / 2 ^ lev = idx := by
  refine ⟨fun h => (ben_mem h).1, fun h => ?_⟩
  have h2 := Nat.mod_lt j (Nat.two_pow_pos lev)
  refine List.mem_map.mpr ⟨j % 2 ^ lev, List.mem_range.mpr h2, ?_⟩
  rw [← h, Nat.mul_comm]
  exact Nat.div_add_mod j (2 ^ lev)
def spLas : Sp := fun vs H Q _ => ∃ (b na la : Addr) (h lev at' : Nat) (ls : List V) (v : V), vs = [v, .ref na, .ref la] ∧ h ≤ 8 ∧ lev ≤ h ∧ at' < 2 ^ (h - lev) ∧ H na = some (.tup [.int (lev : Nat), .int (at' : Nat)]) ∧ H la = some (.tup ls) ∧ ls.length = 2 ^ h ∧ Thg b H v ∧ ∀ H', Same H H' → Q (.bl (asideB H ls lev at' v)) H'
def spLns : Sp := fun vs H Q _ => ∃ (b : Addr) (h : Nat) (la : Addr) (ls : List V) (v : V), vs = [.int (h : Int), .ref la, v] ∧ h ≤ 8 ∧ H la = some (.tup ls) ∧ ls.length = 2 ^ h ∧ Thg b H v ∧ ∀ H', Same H H' → Q (.bl (nodesB H h ls v)) H'
def badV : Option Str → V
  | none => .non
  | some z => .str z
def spLbd : Sp := fun vs H Q _ => ∃ (b p : Addr) (h l n : V), vs = [.ref p] ∧ H p = some (.lst [h, l, n]) ∧ Thg b H h ∧ Thg b H l ∧ Thg b H n ∧ ∀ H', Same H H' → Q (badV (badT H h l n)) H'
section
variable {P : Program} {w : World} {K : PySem.W.Frag} {mg : Str → Option Value} {base : Heap}
abbrev nLas : List Str := ["thing", "node", "leaves", "ahead", "beneath", "leaf"]
theorem scLas : FnScope nLas ["thing", "node", "leaves"] (defScope sLas) := ⟨rfl, rfl, rfl, by decide +kernel, rfl, by decide +kernel, by decide +kernel⟩
theorem ok_las {f : Addr} {fd : FuncData} {k : Nat} (F : Fun K "_law_aside" "_law_aside" sLas f fd) (T : Tx mg) (cB : Cal P w K mg base (k + 1) "_law_beneath" ["node"] spBen) (cI : Cal P w K mg base (k + 1) "_law_int" ["thing", "least", "most"] spLint) : FnOk P w K mg base CX0 (k + 2) f fd ["thing", "node", "leaves"] spLas := by
  refine F.ok scLas (fun vs H Q E h => ?_) (fun cdv A outer s H vs Q E hr h => ?_)
  · obtain ⟨b, na, la, h, lev, at', ls, v, rfl, _⟩ := h
    rfl
  · obtain ⟨b, na, la, h, lev, at', ls, v, rfl, hh, hl, ha, hna, hla, hll, hv, q⟩ := h
    obtain ⟨t, ht⟩ := hv.th
    refine ⟨_, (pss_cons (ps_if (pt_not (pt_val (pe_callB call_isTh (by rfl) T.isi (by decide +kernel) (pa_cons (pv 0) (pa_cons (pe_bltn (v := .ty "tuple") (u := .type "tuple") (by rfl) T.tuple_ (by decide +kernel) rfl) pa_nil))))) (pss_one (ps_ret pe_bl)) pss_nil) (pss_cons (ps_set (i := 3) scLas.nd rfl (Or.inl rfl) (pe_un un_neg pe_int)) (pss_cons (ps_set (i := 4) scLas.nd rfl (Or.inl rfl) (pe_c cB hr (by omega) (by rfl) (pa_cons (pv 1) pa_nil))) (pss_cons (ps_for PassesOwn.never rfl (pi_tup (pv 0)) (pg_name (i := 5) scLas.nd rfl (Or.inl rfl)) (pss_cons (ps_if (pt_or (pt_not (pt_val (pe_c cI hr (by omega) (by rfl) (pa_cons (pv 5) (pa_cons (pe_op op_add (pv 3) pe_int) (pa_cons (pe_callB call_len_seq (by rfl) T.len_ PySem.boot_len (pa_cons (pv 2) pa_nil)) pa_nil)))))) (pw_or (pt_cmpR (op_notInD (u65 hr)) (pv 5) (pv 4) rfl) (pw_or1 (pt_cmpR op_isN (pe_ix ix_tup (pv 2) (pv 5) (fun _ _ => rfl)) pe_non (nomark _))))) (pss_one (ps_ret pe_bl)) pss_nil) (pss_one (ps_set (i := 3) scLas.nd rfl (Or.inl rfl) (pv 5))))) (pss_one (ps_ret pe_bl)))))), ?_⟩
    refine ⟨_, rfl, _, "tuple", t, rfl, ht, by decide, _, rfl, ?_⟩
    rcases tup_cases ht with ⟨a, xs, rfl, hx, e, rfl⟩ | ⟨e1, e2⟩
    rotate_left
    · rw [e2]
      rw [asideB_no e1] at q
      exact iteT (q _ (Same.refl _))
    obtain ⟨hlx, hxs⟩ := hv.sub hx
    rw [asideB_chain e] at q
    have p1 := pow8 hh
    have p2 : at' ≤ 1000 := by
      have : 2 ^ (h - lev) ≤ 256 := pow8 (by omega)
      omega
    refine iteF ⟨_, rfl, _, rfl, na, lev, at', rfl, hna, by omega, p2, fun H2 lb s2 nlb hlb => ?_⟩
    refine ⟨_, rfl, a, rfl, ⟨_, SqT.of (s2 _ _ hx)⟩, ?_⟩
    refine for_it (walk_tup (xs := xs)) (fun i σ G => ∃ (y5 : Option V) (p : Int), σ = [some (.ref a), some (.ref na), some (.ref la), some (.int p), some (.ref lb), y5] ∧ Same H G ∧ G lb = some (.lst (nN (benL lev at'))) ∧ -1 ≤ p ∧ chainA ls lev at' (-1) xs = chainA ls lev at' p (xs.drop i)) ⟨_, -1, rfl, s2, hlb, by decide, rfl⟩ (fun i σ G _ hG => ?_) ?_ ?_
    · obtain ⟨_, _, _, sG, _⟩ := hG
      exact .of (sG _ _ hx)
    · rintro i y σ G G' hi ⟨y5, p, rfl, sG, hlb, hp, hc⟩ ⟨rfl, hy⟩
      obtain ⟨hi', hy'⟩ := List.getElem?_eq_some_iff.mp hy
      have ed : xs.drop i = y :: xs.drop (i + 1) := by rw [← hy']; exact List.drop_eq_getElem_cons hi'
      rw [ed, chainA_cons] at hc
      have ty := hxs y (List.mem_of_getElem? hy)
      have bad : (belowV (ls.length : Int) y && (ltI p (intV y) && condA ls lev at' y)) = false → ∀ G2, Same H G2 → Q (.bl false) G2 := fun e G2 s => by
        rw [e, Bool.false_and] at hc
        rw [hc] at q
        exact q _ s
      refine ⟨_, rfl, _, rfl, _, _, rfl, rfl, _, rfl, la, ls, rfl, .inr (.of (sG _ _ hla)), b, y, _, _, rfl, ty.same sG, _, rfl, ?_⟩
      cases hb : betw (p + 1) (ls.length : Nat) y with
      | false =>
        refine iteT (bad ?_ _ sG)
        cases y with
        | int i =>
          have hb := of_decide_eq_false (show decide (p + 1 ≤ i ∧ i ≤ ((ls.length : Nat) : Int)) = false from hb)
          show (decide (0 ≤ i ∧ i < ((ls.length : Nat) : Int)) && (decide (p < i) && _)) = false
          by_cases h1 : p < i
          · rw [decide_eq_false (by omega)]; rfl
          · rw [decide_eq_false h1, Bool.false_and, Bool.and_false]
        | _ => rfl
      | true =>
      obtain ⟨c, rfl, hc1, hc2⟩ : ∃ c : Nat, y = .int (c : Nat) ∧ p < (c : Nat) ∧ c ≤ ls.length := by
        cases y with
        | int i =>
          have := of_decide_eq_true (show decide (p + 1 ≤ i ∧ i ≤ ((ls.length : Nat) : Int)) = true from hb)
          exact ⟨i.toNat, congrArg V.int (by omega), by omega, by omega⟩
        | _ => cases hb
      have ei : iV (.int (c : Nat)) = c := Int.toNat_natCast c
      have ec : condA ls lev at' (.int (c : Nat)) = (decide (c / 2 ^ lev = at') && notNon (ls.getD c .non)) := by
        unfold condA
        rw [ei]
      refine iteF ⟨_, rfl, _, rfl, rNotIn_nats hlb ⟨_, rfl, ?_⟩⟩
      by_cases hm : c ∈ benL lev at'
      rotate_left
      · rw [decide_eq_false hm]
        refine iteT (bad ?_ _ sG)
        rw [ec, decide_eq_false (fun z => hm (mem_ben.mpr z)), Bool.false_and, Bool.and_false, Bool.and_false]
      rw [decide_eq_true hm]
      have hcl : c < ls.length := by
        rw [hll]
        exact ben_lt hm ha hl
      have hv2 : ls[c]? = some ls[c] := List.getElem?_eq_getElem hcl
      have hg : ls.getD c .non = ls[c] := by rw [List.getD_eq_getElem?_getD, hv2]; rfl
      refine iteF ⟨_, rfl, _, rfl, la, ls, _, ls[c], rfl, rfl, .of (sG _ _ hla), atI_nat hv2, rfl, _, rfl, ?_⟩
      cases hnn : notNon ls[c] with
      | false =>
        have e9 : decide (ls[c] = V.non) = true := by
          have := nonN ls[c]
          rw [hnn] at this
          simpa using this
        rw [e9]
        refine iteT (bad ?_ _ sG)
        rw [ec, hg, hnn, Bool.and_false, Bool.and_false, Bool.and_false]
      | true =>
        have e9 : decide (ls[c] = V.non) = false := by
          have := nonN ls[c]
          rw [hnn] at this
          simpa using this
        rw [e9]
        have g1 : belowV (ls.length : Int) (.int (c : Nat)) = true := decide_eq_true (show (0 : Int) ≤ (c : Nat) ∧ ((c : Nat) : Int) < (ls.length : Int) by omega)
        have g2 : ltI p (intV (.int (c : Nat))) = true := decide_eq_true hc1
        rw [g1, g2, ec, hg, hnn, decide_eq_true (mem_ben.mp hm)] at hc
        exact iteF ⟨_, rfl, _, _, rfl, sG, hlb, by omega, hc⟩
    · rintro σ G ⟨y5, p, rfl, sG, hlb, hp, hc⟩
      rw [List.drop_length] at hc
      rw [hc] at q
      exact q _ sG
abbrev nLns : List Str := ["height", "leaves", "nodes", "ahead", "node"]
theorem scLns : FnScope nLns ["height", "leaves", "nodes"] (defScope sLns) := ⟨rfl, rfl, rfl, by decide +kernel, rfl, by decide +kernel, by decide +kernel⟩
theorem ok_lns {f : Addr} {fd : FuncData} {k : Nat} (F : Fun K "_law_nodes" "_law_nodes" sLns f fd) (T : Tx mg) (cN : Cal P w K mg base (k + 2) "_law_node" ["thing", "height"] spLnd) (cI : Cal P w K mg base (k + 2) "_law_int" ["thing", "least", "most"] spLint) (cA : Cal P w K mg base (k + 2) "_law_aside" ["thing", "node", "leaves"] spLas) : FnOk P w K mg base CX0 (k + 3) f fd ["height", "leaves", "nodes"] spLns := by
  refine F.ok scLns (fun vs H Q E h => ?_) (fun cdv A outer s H vs Q E hr h => ?_)
  · obtain ⟨b, h, la, ls, v, rfl, _⟩ := h
    rfl
  · obtain ⟨b, h, la, ls, v, rfl, hh, hla, hll, hv, q⟩ := h
    obtain ⟨t, ht⟩ := hv.th
    refine ⟨_, (pss_cons (ps_if (pt_not (pt_val (pe_callB call_isTh (by rfl) T.isi (by decide +kernel) (pa_cons (pv 2) (pa_cons (pe_bltn (v := .ty "tuple") (u := .type "tuple") (by rfl) T.tuple_ (by decide +kernel) rfl) pa_nil))))) (pss_one (ps_ret pe_bl)) pss_nil) (pss_cons (ps_set (i := 3) scLns.nd rfl (Or.inl rfl) (pe_tup (pa_cons pe_int (pa_cons pe_int pa_nil)))) (pss_cons (ps_for PassesOwn.never rfl (pi_tup (pv 2)) (pg_name (i := 4) scLns.nd rfl (Or.inl rfl)) (pss_cons (ps_if (pt_or (pt_not (pt_val (pe_callB call_isTh (by rfl) T.isi (by decide +kernel) (pa_cons (pv 4) (pa_cons (pe_bltn (v := .ty "tuple") (u := .type "tuple") (by rfl) T.tuple_ (by decide +kernel) rfl) pa_nil))))) (pw_or (pt_cmpR op_ne (pe_callB call_len_seq (by rfl) T.len_ PySem.boot_len (pa_cons (pv 4) pa_nil)) pe_int (nomark _)) (pw_or (pt_not (pt_val (pe_c cN hr (by omega) (by rfl) (pa_cons (pe_ix ix_tup (pv 4) pe_int (fun _ _ => rfl)) (pa_cons (pv 0) pa_nil))))) (pw_or1 (pt_cmpR (op_leT (lt_un hr)) (pe_ix ix_tup (pv 4) pe_int (fun _ _ => rfl)) (pv 3) (nomark _)))))) (pss_one (ps_ret pe_bl)) pss_nil) (pss_cons (ps_if (pt_or (pt_not (pt_val (pe_c cI hr (by omega) (by rfl) (pa_cons (pe_ix ix_tup (pv 4) pe_int (fun _ _ => rfl)) (pa_cons pe_int (pa_cons (pe_op op_pow pe_int pe_int) pa_nil)))))) (pw_or1 (pt_not (pt_val (pe_c cA hr (by omega) (by rfl) (pa_cons (pe_ix ix_tup (pv 4) pe_int (fun _ _ => rfl)) (pa_cons (pe_ix ix_tup (pv 4) pe_int (fun _ _ => rfl)) (pa_cons (pv 1) pa_nil)))))))) (pss_one (ps_ret pe_bl)) pss_nil) (pss_one (ps_set (i := 3) scLns.nd rfl (Or.inl rfl) (pe_ix ix_tup (pv 4) pe_int (fun _ _ => rfl))))))) (pss_one (ps_ret pe_bl))))), ?_⟩
    refine ⟨_, rfl, _, "tuple", t, rfl, ht, by decide, _, rfl, ?_⟩
    rcases tup_cases ht with ⟨a, xs, rfl, hx, e, rfl⟩ | ⟨e1, e2⟩
    rotate_left
    · rw [e2]
      rw [nodesB_no e1] at q
      exact iteT (q _ (Same.refl _))
    obtain ⟨hlx, hxs⟩ := hv.sub hx
    rw [nodesB_chain hxs e] at q
    refine iteF ⟨by show 2 ≤ sizeLine; decide, fun p np => ?_⟩
    have s1 := same_upd (o := HO.tup [.int 0, .int 0]) np
    have hp1 : (upd H p (.tup [.int 0, .int 0])) p = some (.tup [.int 0, .int 0]) := upd_same
    generalize upd H p (.tup [.int 0, .int 0]) = H1 at *
    refine ⟨_, rfl, a, rfl, ⟨_, SqT.of (s1 _ _ hx)⟩, ?_⟩
    refine for_it (walk_tup (xs := xs)) (fun i σ G => ∃ (y4 : Option V) (pa : Addr) (c d : Int), σ = [some (.int (h : Nat)), some (.ref la), some (.ref a), some (.ref pa), y4] ∧ Same H G ∧ G pa = some (.tup [.int c, .int d]) ∧ chainN H h ls [0, 0] xs = chainN H h ls [c, d] (xs.drop i)) ⟨_, p, 0, 0, rfl, s1, hp1, rfl⟩ (fun i σ G _ hG => ?_) ?_ ?_
    · obtain ⟨_, _, _, _, _, sG, _⟩ := hG
      exact .of (sG _ _ hx)
    · rintro i y σ G G' hi ⟨y4, pa, c0, d0, rfl, sG, hpa, hc⟩ ⟨rfl, hy⟩
      obtain ⟨hi', hy'⟩ := List.getElem?_eq_some_iff.mp hy
      have ed : xs.drop i = y :: xs.drop (i + 1) := by rw [← hy']; exact List.drop_eq_getElem_cons hi'
      rw [ed, chainN_cons] at hc
      have ty := hxs y (List.mem_of_getElem? hy)
      have bad : (keptB H h ls y && HT.lexLt [c0, d0] (rowI H y)) = false → ∀ G2, Same H G2 → Q (.bl false) G2 := fun e G2 s => by
        rw [e, Bool.false_and] at hc
        rw [hc] at q
        exact q _ s
      have badK : keptB H h ls y = false → ∀ G2, Same H G2 → Q (.bl false) G2 := fun e => bad (by rw [e]; rfl)
      obtain ⟨t2, ht2⟩ := (ty.same sG).th
      refine ⟨_, rfl, _, "tuple", t2, rfl, ht2, by decide, _, rfl, ?_⟩
      rcases tup_cases ht2 with ⟨yr, ys, rfl, hc1, e1, rfl⟩ | ⟨e1, e2⟩
      rotate_left
      · rw [e2]
        exact iteT (badK (keptB_no (by rw [← tupOf_bl ty (.same sG)]; exact e1)) _ sG)
      have e0 : tupOf H (.ref yr) = some ys := by rw [← tupOf_bl ty (.same sG)]; exact e1
      refine iteF ⟨_, rfl, yr, ys, rfl, .inr (.of hc1), rfl, _, rfl, ?_⟩
      have hd : decide (V.int (ys.length : Nat) = V.int 3) = decide (ys.length = 3) := by
        rw [dec_int, Bool.eq_iff_iff, beq_iff_eq, decide_eq_true_iff]
        omega
      rw [hd]
      by_cases h3 : ys.length = 3
      rotate_left
      · rw [decide_eq_false h3]
        exact iteT (badK (keptB_len e0 h3) _ sG)
      rw [decide_eq_true h3]
      obtain ⟨n, l, c, rfl⟩ : ∃ n l c, ys = [n, l, c] := by
        match ys, h3 with
        | [n, l, c], _ => exact ⟨n, l, c, rfl⟩
      have hyH : H yr = some (.tup [n, l, c]) := by
        obtain ⟨a2, ea, h2, _⟩ := tupOf_sub ty e0
        cases ea
        exact h2
      obtain ⟨_, hys⟩ := ty.sub hyH
      have tn := hys n (by simp)
      have tl := hys l (by simp)
      have tc := hys c (by simp)
      have ek := keptB_at (h := h) (ls := ls) e0
      refine iteF ⟨_, rfl, yr, _, _, n, rfl, rfl, .of hc1, atI_nat (j := 0) rfl, _, rfl, b, h, n, rfl, hh, tn.same sG, fun G2 s2 => ⟨_, rfl, ?_⟩⟩
      have sG2 := sG.trans s2
      have en : (nodeB G' h n && decide (levV G' n ≠ 0)) = (nodeB H h n && decide (levV H n ≠ 0)) := by rw [nodeB_bl tn (.same sG), levV_bl tn (.same sG)]
      rw [en]
      rw [← Bool.and_assoc] at ek
      cases hnb : (nodeB H h n && decide (levV H n ≠ 0)) with
      | false =>
        rw [hnb] at ek
        exact iteT (badK ek _ sG2)
      | true =>
      rw [hnb, Bool.true_and] at ek
      obtain ⟨hn1, hn2⟩ := Bool.and_eq_true_iff.mp hnb
      have hn2 := of_decide_eq_true hn2
      obtain ⟨na, rfl, hna, ena, hlev, hat, hni⟩ := node_of tn hn1
      have er : rowI H (.ref yr) = [((levV H (.ref na) : Nat) : Int), ((atV H (.ref na) : Nat) : Int)] := by
        rw [← hni]
        unfold rowI
        rw [e0]
      rw [er] at hc bad
      generalize levV H (.ref na) = lev at *
      generalize atV H (.ref na) = at' at *
      have hc2 := s2 _ _ hc1
      have hna2 := sG2 _ _ hna
      refine iteF ⟨_, rfl, yr, _, _, .ref na, rfl, rfl, .of hc2, atI_nat (j := 0) rfl, _, rfl, na, pa, [((lev : Nat) : Int), ((at' : Nat) : Int)], [c0, d0], rfl, rfl, .of hna2, .of (s2 _ _ hpa), ?_⟩
      rw [le2]
      refine ⟨_, rfl, ?_⟩
      cases hlx2 : HT.lexLt [c0, d0] [((lev : Nat) : Int), ((at' : Nat) : Int)] with
      | false => exact iteT (bad (by rw [hlx2, Bool.and_false]) _ sG2)
      | true =>
      rw [hlx2, Bool.and_true] at hc
      refine iteF ⟨_, rfl, yr, _, _, l, rfl, rfl, .of hc2, atI_nat (j := 1) rfl, _, _, rfl, rfl, ⟨by decide, by decide, by decide⟩, b, l, _, _, rfl, tl.same sG2, _, rfl, ?_⟩
      rw [betw_num tl]
      cases hnu : numV l with
      | false => exact iteT (badK (by rw [ek, hnu]; rfl) _ sG2)
      | true =>
      rw [hnu, Bool.true_and] at ek
      refine iteF ⟨_, rfl, yr, _, _, c, rfl, rfl, .of hc2, atI_nat (j := 2) rfl, _, rfl, yr, _, _, .ref na, rfl, rfl, .of hc2, atI_nat (j := 0) rfl, _, rfl, b, na, la, h, lev, at', ls, c, rfl, hh, hlev, Int.ofNat_lt.mp (by push_cast; exact hat), hna2, sG2 _ _ hla, hll, tc.same sG2, fun G3 s3 => ⟨_, rfl, ?_⟩⟩
      rw [asideB_bl tc (.same sG2), ← ek]
      cases hk : keptB H h ls (.ref yr) with
      | false => exact iteT (badK hk _ (sG2.trans s3))
      | true =>
        rw [hk, Bool.true_and] at hc
        exact iteF ⟨_, rfl, yr, _, _, .ref na, rfl, rfl, .of (s3 _ _ hc2), atI_nat (j := 0) rfl, _, na, _, _, rfl, sG2.trans s3, s3 _ _ hna2, hc⟩
    · rintro σ G ⟨y4, pa, c0, d0, rfl, sG, hpa, hc⟩
      rw [List.drop_length] at hc
      rw [hc] at q
      exact q _ sG
theorem scLbd : FnScope ["parts"] ["parts"] (defScope sLbd) := ⟨rfl, rfl, rfl, by decide +kernel, rfl, by decide +kernel, by decide +kernel⟩
theorem ok_lbd {f : Addr} {fd : FuncData} {k : Nat} (F : Fun K "_law_bad" "_law_bad" sLbd f fd) (T : Tx mg) (cI : Cal P w K mg base (k + 3) "_law_int" ["thing", "least", "most"] spLint) (cM : Cal P w K mg base (k + 3) "_law_members" ["height", "leaves"] spMbs) (cN : Cal P w K mg base (k + 3) "_law_nodes" ["height", "leaves", "nodes"] spLns) : FnOk P w K mg base CX0 (k + 4) f fd ["parts"] spLbd := by
  refine F.ok scLbd (fun vs H Q E h => ?_) (fun cdv A outer s H vs Q E hr h => ?_)
  · obtain ⟨b, p, h, l, n, rfl, _⟩ := h
    rfl
  · obtain ⟨b, p, h, l, n, rfl, hp, th, tl, tn, q⟩ := h
    refine ⟨_, (pss_cons (ps_if (pt_not (pt_val (pe_c cI hr (by omega) (by rfl) (pa_cons (pe_ix ix_list (pv 0) pe_int (fun _ _ => rfl)) (pa_cons pe_int (pa_cons pe_int pa_nil)))))) (pss_one (ps_ret pe_str)) pss_nil) (pss_cons (ps_if (pt_not (pt_val (pe_c cM hr (by omega) (by rfl) (pa_cons (pe_ix ix_list (pv 0) pe_int (fun _ _ => rfl)) (pa_cons (pe_ix ix_list (pv 0) pe_int (fun _ _ => rfl)) pa_nil))))) (pss_one (ps_ret pe_str)) pss_nil) (pss_one (ps_ret (pe_ifExp (pt_val (pe_c cN hr (by omega) (by rfl) (pa_cons (pe_ix ix_list (pv 0) pe_int (fun _ _ => rfl)) (pa_cons (pe_ix ix_list (pv 0) pe_int (fun _ _ => rfl)) (pa_cons (pe_ix ix_list (pv 0) pe_int (fun _ _ => rfl)) pa_nil))))) pe_non pe_str))))), ?_⟩
    refine ⟨_, rfl, p, _, _, h, rfl, rfl, .of hp, atI_nat (j := 0) rfl, b, h, _, _, rfl, th, _, rfl, ?_⟩
    have e9 : betw 0 8 h = belowV 9 h := by
      cases h with
      | int i =>
        show decide (0 ≤ i ∧ i ≤ 8) = decide (0 ≤ i ∧ i < 9)
        exact decide_eq_decide.mpr (by omega)
      | _ => rfl
    rw [e9]
    unfold badT at q
    cases hb : belowV 9 h with
    | false =>
      rw [hb] at q
      exact iteT (q _ (Same.refl _))
    | true =>
    rw [hb, if_pos rfl] at q
    obtain ⟨b1, b2, b3⟩ := below_int hb
    generalize iV h = hn at *
    subst b1
    refine iteF ⟨_, rfl, p, _, _, .int (hn : Nat), rfl, rfl, .of hp, atI_nat (j := 0) rfl, _, rfl, p, _, _, l, rfl, rfl, .of hp, atI_nat (j := 1) rfl, b, hn, l, rfl, by omega, tl, fun H2 s2 => ⟨_, rfl, ?_⟩⟩
    cases hl : leavesB H hn l with
    | false =>
      rw [hl] at q
      exact iteT (q _ s2)
    | true =>
    rw [hl, if_pos rfl] at q
    obtain ⟨ls, els⟩ := leavesB_tup hl
    obtain ⟨la, rfl, hla, _, _⟩ := tupOf_sub tl els
    rw [els, Option.getD_some] at q
    have hll : ls.length = 2 ^ hn := by
      rw [leavesB_at els, Bool.and_eq_true] at hl
      exact of_decide_eq_true hl.1
    have hp2 := s2 _ _ hp
    refine iteF ⟨_, rfl, p, _, _, .int (hn : Nat), rfl, rfl, .of hp2, atI_nat (j := 0) rfl, _, rfl, p, _, _, .ref la, rfl, rfl, .of hp2, atI_nat (j := 1) rfl, _, rfl, p, _, _, n, rfl, rfl, .of hp2, atI_nat (j := 2) rfl, b, hn, la, ls, n, rfl, by omega, s2 _ _ hla, hll, tn.same s2, fun H3 s3 => ⟨_, rfl, ?_⟩⟩
    rw [nodesB_bl tn (.same s2)]
    cases hnn : nodesB H hn ls n with
    | false =>
      rw [hnn] at q
      exact iteF (q _ (s2.trans s3))
    | true =>
      rw [hnn] at q
      exact iteT (q _ (s2.trans s3))
end
end L2.My
end
section
set_option Elab.async false
set_option linter.all false
set_option maxRecDepth 100000
set_option maxHeartbeats 4000000
/-! tuple(reversed(a tuple)). -/
namespace L2.My
open PySem PySem.Spec PyProof.Rows RT
theorem rt_len : typeLookup (.type "reversed") "__len__" = pure none := by rw [typeLookup_type, builtinLookup_eq_fast]; kernel_rfl
theorem rt_hint : typeLookup (.type "reversed") "__length_hint__" = pure (some (.builtin "reversed.__length_hint__")) := by rw [typeLookup_type, builtinLookup_eq_fast]; kernel_rfl
theorem slot_rt_hint : Slot "reversed" "__length_hint__" "reversed.__length_hint__" :=
  .of (owner := "reversed") (n := "__length_hint__") (by rw [typeLookup_type, builtinLookup_eq_fast]; kernel_rfl) (by decide +kernel) (by decide +kernel) (by decide +kernel)
    (by first | exact .inl (by decide +kernel) | exact .inr (by decide +kernel)) (by rw [isSubtype_type]; kernel_rfl)
theorem entry_rt_hint : entryFor table "reversed.__length_hint__" = some Builtin.«reversed.__length_hint__» := entryFor_of_tree (by kernel_rfl)
theorem args_rt_hint (a : Value) : argsOk "reversed.__length_hint__" ⟨[a], []⟩ := by
  unfold argsOk; rw [signature?_of (id := "reversed.__length_hint__") (n := ['_', '_', 't', 'n', 'i', 'h', '_', 'h', 't', 'g', 'n', 'e', 'l', '_', '_']) (o := ['d', 'e', 's', 'r', 'e', 'v', 'e', 'r']) (by kernel_rfl) owner_rt]; kernel_rfl
theorem ty_rt_hint : typeOf (.builtin "reversed.__length_hint__") = pure (.type "method_descriptor") := by kernel_rfl
section
variable {prog : Program} {w : World} {A : Around} {E : Value → Shared → Prop} {s : Shared} {it t : Addr} {items : Array Value}
theorem fld_rt {Q : Value → Shared → Prop} {i : Int} (hit : IsRt s.heap it t i) (ht : IsTup s.heap t items) (hsz : items.size ≤ sizeLine) (hi : i < items.size) (h : ∀ u k, Q (.int (i + 1) u) { s with toks := k }) : wpAny (model prog w) A (call (.builtin "reversed.__length_hint__") [.ref it]) Q E s := by
  obtain ⟨o, ho, hc, hd⟩ := id hit
  refine wpAny_call_entry slot_rt_hint hit.typeIs entry_rt_hint ?_ (args_rt_hint _)
  unfold Builtin.«reversed.__length_hint__»
  refine wpAny_bind (wpAny_of_eq (a := Value.ref it) (by first | rfl | kernel_rfl) ?_)
  try dsimp only
  refine wpAny_bind (wpAny_field ho hd (x := .ref t) rfl ?_)
  try dsimp only
  rw [if_neg (show ¬ (Value.ref t == Value.none) = true from by simp)]
  have hz : (items.size : Int) < 2 ^ 63 := by
    have := line63
    omega
  refine wpAny_bind (len_tuple ht hz ?_)
  refine wpAny_bind (wpAny_of_eq (a := some ((items.size : Nat) : Int)) rfl ?_)
  try dsimp only
  refine wpAny_bind (wpAny_field (s := { s with toks := s.toks + 1 + 1 }) ho hd (x := rawInt i) rfl ?_)
  show wpAny _ _ (if ((items.size : Nat) : Int) < i + 1 then _ else _) _ _ _
  rw [if_neg (by omega)]
  unfold retInt
  refine wpAny_bind (wpAny_mkInt ?_)
  exact wpAny_pure ⟨_, rfl, h _ _⟩
theorem hint_rt {Q : Bool → Shared → Prop} {i : Int} (hit : IsRt s.heap it t i) (ht : IsTup s.heap t items) (hsz : items.size ≤ sizeLine) (h0 : -1 ≤ i) (hi : i < items.size) (h : ∀ b k, Q b { s with toks := k }) : wpAny (model prog w) A (Builtin.List.listLengthHint (.ref it)) Q E s := by
  have hT := hit.typeIs
  unfold Builtin.List.listLengthHint
  refine wpAny_bind (wpAny_specialOf hT rt_len ?_)
  show wpAny _ A (specialOf (Value.ref it) (Str.ofString "__length_hint__") >>= _) _ _ _
  refine wpAny_bind (wpAny_specialOf hT rt_hint ?_)
  generalize hid : ("reversed.__length_hint__" : String) = id0
  wp_delta
  rw [show splitId id0 = some ("reversed", "__length_hint__") from by subst hid; decide +kernel]
  subst hid
  refine wpAny_bind (wpAny_isInstance (b := true) hT (by rw [isSubtype_type]; kernel_rfl) ?_)
  refine wpAny_ite_split (fun hab => absurd hab (by decide)) (fun _ => ?_)
  refine wpAny_ite_split (fun hab => absurd hab (by decide +kernel)) (fun _ => ?_)
  refine wpAny_bind (wpAny_rule ?_)
  refine wpAny_bind (wpAny_of_eq (a := (Value.builtin "reversed.__length_hint__", [Value.ref it])) (by unfold bindSpecial; rw [ty_rt_hint]; rfl) ?_)
  try dsimp only
  refine wpAny_bind (wpAny_attempt (fld_rt hit ht hsz hi fun u k => ?_))
  try dsimp only
  refine wpAny_bind (wpAny_of_eq (a := some (i + 1)) rfl ?_)
  try dsimp only
  have hb : i + 1 ≤ sizeLine := by omega
  rw [sizeLine_eq] at hb
  refine wpAny_ite_split (fun hab => absurd hab (by simp [Builtin.List.listFitsIndex]; omega)) (fun _ => ?_)
  refine wpAny_ite_split (fun hab => absurd hab (by omega)) (fun _ => ?_)
  refine wpAny_ite_split (fun hab => absurd hab (by simp [Builtin.List.listTooLong]; omega)) (fun _ => ?_)
  exact wpAny_pure (h _ _)
theorem walks_rt (hh : A.handled = none) (hne : t ≠ it) (hsz : items.size ≤ sizeLine) :
    Walks prog w A it [it, t] [it] items.size (fun i v => items[items.size - 1 - i]? = some v) (fun i h => i ≤ items.size ∧ IsRt h it t ((items.size : Int) - 1 - (i : Int)) ∧ IsTup h t items) where
  sub := fun b hb => by simp at hb; simp [hb]
  frame := fun _ h h' x hk => ⟨x.1, x.2.1.at fun o e => hk it (by simp) o e, by
    obtain ⟨o, ho, r⟩ := x.2.2
    exact ⟨o, hk t (by simp) o ho, r⟩⟩
  item := fun i s Q E hi x hQ => by
    have e : (items.size : Int) - 1 - (i : Int) = ((items.size - 1 - i : Nat) : Int) := by omega
    have hit := x.2.1
    rw [e] at hit
    have hx : items[items.size - 1 - i]? = some (items[items.size - 1 - i]'(by omega)) := Array.getElem?_eq_getElem (by omega)
    refine next_rt_item hit x.2.2 hx hsz fun h' hit' hs' => ?_
    have e2 : ((items.size - 1 - i : Nat) : Int) - 1 = (items.size : Int) - 1 - ((i + 1 : Nat) : Int) := by omega
    rw [e2] at hit'
    obtain ⟨o, ho, r⟩ := x.2.2
    exact hQ _ h' _ hx ⟨hi, hit', o, (hs'.2 t hne).trans ho, r⟩ fun b o hb eo => (hs'.2 b (fun h => hb (by simp [h]))).trans eo
  done := fun s Q E x hQ => by
    have e : (items.size : Int) - 1 - (items.size : Int) = -1 := by omega
    have hit := x.2.1
    rw [e] at hit
    exact next_rt_end hh hit fun h' he' => hQ h' s.toks fun b o hb eo => he' b o (fun h => hb (by simp [h])) eo
  self := fun _ _ _ _ x hQ => iter_rt x.2.1 hQ
theorem gather_rt {Q : List Value → Shared → Prop} (hh : A.handled = none) (hit : IsRt s.heap it t ((items.size : Int) - 1)) (hl : IsTup s.heap t items) (hne : t ≠ it) (hn : items.size ≤ sizeLine)
    (hQ : ∀ (h' : Heap) (tk : Nat) (acc : Array Value), (∀ b o, b ≠ it → s.heap.get? b = some o → h'.get? b = some o) → ItemsOf (fun i v => items[items.size - 1 - i]? = some v) acc items.size → Q acc.toList { s with heap := h', toks := tk }) :
    wpAny (model prog w) A (collect (.ref it)) Q E s := by
  have W := (walks_rt (prog := prog) (w := w) (A := A.in1) (items := items) hh hne hn).toS
  have hi1 := Heap.lt_size (id hit).choose_spec.1
  have ht1 := hl.lt
  have out : s.heap.objs.size ∉ [it, t] := by
    simp only [List.mem_cons, List.not_mem_nil, or_false, not_or]
    exact ⟨Nat.ne_of_gt hi1, Nat.ne_of_gt ht1⟩
  unfold collect
  refine wpAny_bind (wpAny_runValue (codeAny_builtin F.entry_proto_collect ?_))
  rw [Around.under_plainId F.plain_proto_collect _]
  show wpAny _ A.in1 (newList [] >>= fun l' => again (.builtin "list.__iadd__" ⟨[l', .ref it], []⟩)) _ _ s
  refine wpAny_bind (wpAny_newObj_type ?_)
  refine wpAny_pure ⟨plainId_quiet F.plain_list_iadd _, codeAny_builtin F.entry_list_iadd ?_⟩
  rw [Around.under_plainId F.plain_list_iadd _]
  have hS : (s.heap.push { cls := .type "list", data := .seq ([] : List Value).toArray }).get? s.heap.objs.size = some { cls := .type "list", data := .seq ([] : List Value).toArray } := Heap.get?_push_size _ rfl
  have hit1 := hit.at (h' := s.heap.push { cls := .type "list", data := .seq ([] : List Value).toArray }) fun o e => Heap.get?_push_of_some _ e
  have hl1 := hl.push { cls := .type "list", data := .seq ([] : List Value).toArray }
  have hT : ({ s with heap := s.heap.push { cls := .type "list", data := .seq ([] : List Value).toArray } } : Shared).TypeIs (.ref it) "reversed" := IsRt.typeIs (s := { s with heap := s.heap.push { cls := .type "list", data := .seq ([] : List Value).toArray } }) hit1
  have other : Builtin.List.listSameRef (.ref s.heap.objs.size) (.ref it) = false := by simp [Builtin.List.listSameRef, Nat.ne_of_gt hi1]
  show wpAny _ A.in1 (Builtin.List.listExtendWith (.ref s.heap.objs.size) (.ref it) (.ref s.heap.objs.size)) _ _ _
  unfold Builtin.List.listExtendWith
  refine wpAny_bind (wpAny_typeOf hT ?_)
  rw [if_neg (by rw [other]; decide)]
  refine wpAny_bind (iter_rt (s := { s with heap := s.heap.push { cls := .type "list", data := .seq ([] : List Value).toArray } }) hit1 ?_)
  have e0 : ((items.size : Nat) : Int) - 1 - ((0 : Nat) : Int) = (items.size : Int) - 1 := by omega
  refine wpAny_bind (wpAny_holding (hint_rt hit1 hl1 hn (by omega) (by omega) fun b k => ?_))
  dsimp only
  refine wpAny_ite_split (fun _ => ?_) (fun _ => ?_)
  · refine wpAny_bind (wpAny_rule ?_)
    refine wpAny_bind ?_
    show wpAny _ A.in1 (updateSeq s.heap.objs.size (·.push .none) >>= fun _ => updateSeq s.heap.objs.size (·.pop)) _ _ _
    refine wpAny_bind (wpAny_updateSeq hS rfl ?_)
    have hS2 := Heap.get?_update_self (Obj.mapSeq (·.push Value.none)) hS rfl
    refine wpAny_updateSeq (hz := by seq_fits) hS2 rfl ?_
    have hS3 := Heap.get?_update_self (Obj.mapSeq (·.pop)) hS2 rfl
    have oth : ∀ p o, p ≠ s.heap.objs.size → (s.heap.push { cls := .type "list", data := .seq ([] : List Value).toArray }).get? p = some o →
        (((s.heap.push { cls := .type "list", data := .seq ([] : List Value).toArray }).update s.heap.objs.size (Obj.mapSeq (·.push Value.none))).update s.heap.objs.size (Obj.mapSeq (·.pop))).get? p = some o :=
      fun p o hb e => (Heap.get?_update_other _ _ (Ne.symm hb)).trans ((Heap.get?_update_other _ _ (Ne.symm hb)).trans e)
    refine wpAny_pure ⟨plainId_quiet F.plain_extend_loop _, codeAny_extend_loopS W hn _ out _ items.size 0 _ _ _ rfl (Nat.zero_le _) ⟨Nat.zero_le _, by rw [e0]; exact hit1.at fun o e => oth _ o (Nat.ne_of_lt hi1) e, ?_⟩ hS3 (ItemsOf.nil _) fun s' acc' c' hm hS' hacc => ?_⟩
    · obtain ⟨o, ho, r⟩ := hl1
      exact ⟨o, oth _ o (Nat.ne_of_lt ht1) ho, r⟩
    show wpAny _ A (load s.heap.objs.size >>= _) _ _ s'
    refine wpAny_bind (wpAny_load hS' ?_)
    refine wpAny_pure ?_
    rw [Moved.eq_with hm]
    refine hQ s'.heap s'.toks acc' (fun b o hb e => hm.heap b o (fun hmem => ?_) (oth b o (Nat.ne_of_lt (Heap.lt_size e)) (Heap.get?_push_of_some _ e))) hacc
    rcases List.mem_cons.mp hmem with e' | hmem
    · exact absurd (Heap.lt_size e) (by rw [e']; exact Nat.lt_irrefl _)
    · exact hb (List.mem_singleton.mp hmem)
  · refine wpAny_pure ⟨plainId_quiet F.plain_extend_loop _, codeAny_extend_loopS W hn _ out _ items.size 0 _ _ _ rfl (Nat.zero_le _) ⟨Nat.zero_le _, by rw [e0]; exact hit1, hl1⟩ hS (ItemsOf.nil _) fun s' acc' c' hm hS' hacc => ?_⟩
    show wpAny _ A (load s.heap.objs.size >>= _) _ _ s'
    refine wpAny_bind (wpAny_load hS' ?_)
    refine wpAny_pure ?_
    rw [Moved.eq_with hm]
    refine hQ s'.heap s'.toks acc' (fun b o hb e => hm.heap b o (fun hmem => ?_) (Heap.get?_push_of_some _ e)) hacc
    rcases List.mem_cons.mp hmem with e' | hmem
    · exact absurd (Heap.lt_size e) (by rw [e']; exact Nat.lt_irrefl _)
    · exact hb (List.mem_singleton.mp hmem)
theorem mk_rt {Q₁ : Value → Shared → Prop} (hh : A.handled = none) (hit : IsRt s.heap it t ((items.size : Int) - 1)) (hl : IsTup s.heap t items) (hne : t ≠ it) (hn : items.size ≤ sizeLine)
    (h : ∀ (h' : Heap) (tk : Nat) (acc : Array Value), (∀ b o, b ≠ it → s.heap.get? b = some o → h'.get? b = some o) → ItemsOf (fun i v => items[items.size - 1 - i]? = some v) acc items.size →
      Q₁ (.ref h'.objs.size) { s with heap := h'.push { cls := .type "tuple", data := .seq acc }, toks := tk }) :
    codeAny (model prog w) A (.call (.builtin "tuple.__new__") ⟨[.type "tuple", .ref it], []⟩) (wants Q₁ E) s := by
  refine codeAny_of_tree ?_
  show wpAny _ A.in1 (do checkBuiltinCall "tuple.__new__" ⟨[.type "tuple", .ref it], []⟩; again (.builtin "tuple.__new__" ⟨[.type "tuple", .ref it], []⟩)) _ _ s
  refine wpAny_bind (wpAny_of_eq (F.newCall_tuple_1 _) (wpAny_pure ⟨plainId_quiet F.plain_tuple_new _, codeAny_builtin F.entry_tuple_new ?_⟩))
  rw [Around.under_plainId F.plain_tuple_new _]
  have hsub := sub_tuple_self
  have hinit := init_tuple_lookup
  have hmh := madeHere_tuple
  have hTI : s.TypeIs (.ref it) "reversed" := hit.typeIs
  have hh1 : A.in1.handled = none := hh
  wp_walk using wpAny_typeOf hTI, gather_rt (A := A.in1) hh1 hit hl hne hn
  intro h' tk acc hk hacc
  show wpAny _ _ (Builtin.Tuple.tupleExact acc.toList.toArray >>= fun v => ret v) _ _ _
  unfold Builtin.Tuple.tupleExact
  refine wpAny_bind (wpAny_newObj_type ?_ (by show acc.toList.toArray.size ≤ sizeLine; simp only [Array.toArray_toList]; rw [hacc.1]; exact hn))
  refine wpAny_pure ?_
  rw [show acc.toList.toArray = acc by simp]
  exact h h' tk acc hk hacc
theorem tup_rt {Q : Value → Shared → Prop} (hh : A.handled = none) (hit : IsRt s.heap it t ((items.size : Int) - 1)) (hl : IsTup s.heap t items) (hne : t ≠ it) (hn : items.size ≤ sizeLine)
    (hQ : ∀ (h' : Heap) (tk : Nat) (acc : Array Value), (∀ b o, b ≠ it → s.heap.get? b = some o → h'.get? b = some o) → ItemsOf (fun i v => items[items.size - 1 - i]? = some v) acc items.size →
      Q (.ref h'.objs.size) { s with heap := h'.push { cls := .type "tuple", data := .seq acc }, toks := tk }) :
    wpAny (model prog w) A (call (.type "tuple") [.ref it]) Q E s := by
  refine callType_codes (Q₁ := fun obj s₁ => s₁.TypeIs obj "tuple" ∧ Q obj s₁) F.called_tuple (F.typeCall_tuple_1 _) F.entry_object_init
    (mk_rt (A := A.in1) hh hit hl hne hn fun h' tk acc hk hacc => ⟨⟨_, Heap.get?_push_size _ rfl, rfl⟩, hQ h' tk acc hk hacc⟩) fun obj s₁ h₁ => ?_
  exact ⟨h₁.1, F.args_object_init_2 obj _, object_init_meets F.called_tuple.init.lookup F.called_tuple.made (by decide) prog w A.in1 _ s₁ ⟨h₁.1, rfl, h₁.2⟩⟩
end
/-- tuple(reversed(x)), x a tuple: a new tuple -/
def tTupRevT (K : PySem.W.Frag) (te : TE) : TE := fun σ H Q => te σ H fun v H1 => ∃ (a : Addr) (xs : List V), v = .ref a ∧ SqT K H1 a xs ∧ ∀ q, H1 q = none → Q (.ref q) (upd H1 q (.tup xs.reverse))
theorem pe_tupRevT {X : Cx} {e : Expr} {te : TE} {p p2 pos pos2 : Pos} (hc : X.calm = true) (hg : Gl X "tuple") (hm : X.mg "tuple" = none) (hg2 : Gl X "reversed") (hm2 : X.mg "reversed" = none) (he : PE X e te)
    (hs : starEach [e] X.env = (false, eval e X.env) :: starEach [] X.env := by rfl)
    (hs2 : starEach [.Call (.Name "reversed" p2) [e] [] pos2] X.env = (false, eval (.Call (.Name "reversed" p2) [e] [] pos2) X.env) :: starEach [] X.env := by rfl) :
    PE X (.Call (.Name "tuple" p) [.Call (.Name "reversed" p2) [e] [] pos2] [] pos) (tTupRevT X.K te) := by
  refine ⟨fun pins s σ H Q I h => ?_⟩
  refine Call_ (ld_blt I hg hm boot_tuple (PyProof.Rows.callWith_type1 (args_cons (Call_ (ld_blt I hg2 hm2 PyProof.Rows.boot_reversed (PyProof.Rows.callWith_type1 (args_cons (thn (he.run pins s σ H _ I h) fun u s1 ⟨v, H1, I1, r1, q1⟩ => args_nil ?_) hs) hs rfl))) hs2) hs2 rfl))
  obtain ⟨a, xs, ev, hq, q⟩ := q1
  subst ev
  obtain rfl : u = Value.ref a := r1
  obtain ⟨its, rv, p', hz⟩ := I1.tuple hq
  have hn : its.toArray.size ≤ sizeLine := by rw [List.size_toArray, ← rv.length]; exact hz
  have hl63 := line63
  refine call_reversed_tup p' (fun A E Q k => len_tuple p' (by omega) k) (args_nil ?_)
  have k0 : ∀ b o, s1.heap.get? b = some o → (s1.heap.push (rtObj a ((its.toArray.size : Int) - 1))).get? b = some o := fun b o e => Heap.get?_push_of_some _ e
  have I2 : Inv X pins σ H1 { s1 with heap := s1.heap.push (rtObj a ((its.toArray.size : Int) - 1)), toks := s1.toks + 1 + 1 } := I1.kept (t' := s1.toks + 1 + 1) k0
  obtain ⟨f0, f1, f2, f3, f4, f5⟩ := I1.fpOk (H' := H1) (b := s1.heap.objs.size) (Nat.le_refl _) (I1.hok.fresh (Nat.le_refl _))
  have hne : a ≠ s1.heap.objs.size := Nat.ne_of_lt p'.lt
  refine tup_rt (s := { s1 with heap := s1.heap.push (rtObj a ((its.toArray.size : Int) - 1)), toks := s1.toks + 1 + 1 }) (I1.ok.hd hc) ⟨_, Heap.get?_push_size _ rfl, rfl, rfl⟩ (p'.push _) hne hn fun h' tk acc hk hi => ?_
  have I3 : Inv X pins σ H1 { s1 with heap := h', toks := tk } := I2.turned (t' := tk) (fun b o hb e => hk b o hb e) f0 f1 f3 f4 f5
  refine ⟨.ref h'.objs.size, upd H1 h'.objs.size (.tup xs.reverse), I3.laid (t' := tk) (fun c o e => Heap.get?_push_of_some _ e) (Nat.le_refl _) (show ObjOk X.prog X.w _ _ _ (.tup xs.reverse) from ⟨by rw [List.length_reverse]; exact hz, acc.toList, vals_rev rv hi, ?_⟩), rfl, q _ (I3.hok.fresh (Nat.le_refl _))⟩
  rw [Array.toArray_toList]
  exact IsTup.new _ _
end L2.My
end
section
set_option Elab.async false
set_option linter.all false
set_option maxRecDepth 100000
set_option maxHeartbeats 4000000
/-! A law that knows that nothing is being shown when it is called: so it may ask for repr. -/
namespace L2.My
open PySem PySem.Spec PyProof.Rows LamX
/-- the promise of a def that is called while nothing is being shown -/
structure FnOkG (P : Program) (w : World) (K : PySem.W.Frag) (mg : Str → Option Value) (base : Heap) (k : Nat) (f : Addr) (fd : FuncData) (ps : List Str) (sp : Sp) : Prop where
  len : ∀ vs H Q E, sp vs H Q E → vs.length = ps.length
  run : ∀ (A : Around) (outer : List Env) (s : Shared) (H : Hp) (args : Args) (us : List Value) (vs : List V) (Q : VK) (E : XK), Room k A → A.guards = some [] → Env0 P w K mg base A outer s H → BindsTo s fd args (ps.zip us) → Vals vs us → sp vs H Q E →
    codeAny (model P w) A (.call (.ref f) args) (CR CX0 outer P w H s Q E) s
theorem fun_okG {P : Program} {w : World} {K : PySem.W.Frag} {mg : Str → Option Value} {base : Heap} {x qual : Str} {st : Stmt} {f : Addr} {fd : FuncData} {N ps : List Str} {k : Nat} {sp : Sp} (F : Fun K x qual st f fd) (S : FnScope N ps (defScope st)) (len : ∀ vs H Q E, sp vs H Q E → vs.length = ps.length)
    (hbody : ∀ (cdv : Value) (A : Around) (outer : List Env) (s : Shared) (H : Hp) (vs : List V) (Q : VK) (E : XK), Room k (A.deeper (envOfC qual (defScope st) s.heap.objs.size f cdv)) → A.guards = some [] → sp vs H Q E →
      ∃ t, PSs (cxOf CX0 P w K mg base N qual (defScope st) f cdv A outer s H E).nox (defBody st) t ∧ t { nx := fun _ H' => Q .non H', rt := Q } (start N vs) H) : FnOkG P w K mg base (k + 1) f fd ps sp := by
  obtain ⟨oc, od, kV, doc, pm, an, cdv, ct, osl, rfl, lk, hcd⟩ := F.ex
  refine ⟨len, fun A outer s H args us vs Q E hr hgd e0 hb r hsp => ?_⟩
  have keep : ∀ b o, base.get? b = some o → s.heap.get? b = some o := fun b o e => (e0.bs b o e).1
  have KX : K.In s.heap := e0.mod.kin.keeps keep
  refine codeAny_call_function hr.depth (KX _ _ lk) rfl S.co S.gen rfl (PySem.W.codeRec_of KX hcd) (hb _ _ _ _ ?_)
  refine wpAny_newFunctionEnv_cells S.kind (fun ⟨n, v⟩ hy => (S.par n (List.of_mem_zip hy).1).imp_right fun q => ⟨q, PySem.W.cellsFrom_some _ _ _ (.inl q)⟩) fun env he s1 z => ?_
  subst he
  refine ⟨(e0.mod.nolimit.keeps keep).keeps z.toInCall.keep, codeAny_func ?_⟩
  obtain ⟨t, ht, hq⟩ := hbody cdv A outer s H vs Q E (hr.deeper _) hgd hsp
  refine wpAny_mono (ht.nox.run [] s1 (start N vs) H _ (inv_start S hr.hd e0 (len _ _ _ _ hsp) r z) hq) (fun fl s' hs => ?_) fun e s' hs => hs
  cases fl with
  | ret u => exact let ⟨v, _, H', J, rv, q⟩ := hs; ⟨v, H', J.os, J.bare, J.base, J.hok, rv, q⟩
  | next => exact let ⟨_, H', J, q⟩ := hs; ⟨V.non, H', J.os, J.bare, J.base, J.hok, rfl, q⟩
  | brk => exact let ⟨_, _, _, q⟩ := hs; q.elim
  | cont => exact let ⟨_, _, _, q⟩ := hs; q.elim
/-- such a law, called by the caller, from a heap in which nothing but its script may be tracked -/
theorem law_callG {P : Program} {w : World} {K : PySem.W.Frag} {mg mb : Str → Option Value} {k : Nat} {fa a : Addr} {fd : FuncData} {x : Str} {sp : Sp} {s₁ : Shared} {vs : List Value} {ns : List Int}
    (KX : K.In s₁.heap) (hns : s₁.heap.Ns mainGlobals mg) (hb : s₁.heap.Ns builtinsNs mb) (hbb : ∀ x : Str, x ≠ "__name__" → mb x = bootBuiltins x) (hlim : s₁.heap.NoLimit) (hg : s₁.gens = #[])
    (ha : s₁.heap.get? a = some { cls := .type "list", data := .seq vs.toArray }) (hi : IntsAre vs ns) (hl : ns.length ≤ sizeLine) (hr : Room k callerA)
    (F : ∀ base : Heap, K.In base → base.Ns mainGlobals mg → FnOkG P w K mg base k fa fd [x] sp) (hbind : ∀ (s : Shared) (u : Value), BindsTo s fd ⟨[u], []⟩ [(x, u)])
    (hsp : ∀ H : Hp, SqL K H a (ns.map V.int) → sp [.ref a] H (fun v _ => v = .bl true) fun _ _ _ => False) :
    codeAny (model P w) callerA (.call (.ref fa) ⟨[.ref a], []⟩) (fun r s' => r = .ok (.ret (.bool true)) ∧ OldK s₁.heap s'.heap ∧ s'.os = s₁.os ∧ AllBare s'.gens) s₁ := by
  have rv := vals_ints hi
  have core : ∀ H : Hp, (∀ b, H b = none ∨ ∃ o xs, H b = some (.frz o (.lst xs))) → SqL K H a (ns.map V.int) → HOk P w H s₁.heap → (∀ b, H b ≠ none → b = a ∧ K.lookup a = none) →
      codeAny (model P w) callerA (.call (.ref fa) ⟨[.ref a], []⟩) (fun r s' => r = .ok (.ret (.bool true)) ∧ OldK s₁.heap s'.heap ∧ s'.os = s₁.os ∧ AllBare s'.gens) s₁ := by
    intro H hO hS hok hA
    -- what is no script is no part of H
    have out : ∀ {b : Addr} {o : Obj}, s₁.heap.get? b = some o → (b = a → K.lookup a = none → False) → (hidT s₁.heap H).get? b = some o := fun {b o} e no => hidT_get e (by
      cases q : H b with
      | none => rfl
      | some u => exact (no (hA b (by rw [q]; simp)).1 (hA b (by rw [q]; simp)).2).elim)
    have nsK : ∀ {b : Addr} {m : Str → Option Value}, s₁.heap.Ns b m → (hidT s₁.heap H).Ns b m := fun {b m} ⟨o, es, ep, e, d, r⟩ => ⟨o, es, ep, out e (fun z _ => by
      rw [z, ha] at e
      cases e
      have d' : Data.seq vs.toArray _ = Data.dict es ep := d
      cases d'), d, r⟩
    have hKb : K.In (hidT s₁.heap H) := fun b o e => out (KX b o e) fun z h => by rw [z, h] at e; cases e
    have hM : L2.Mod K mg (hidT s₁.heap H) := ⟨hKb, nsK hns, ⟨mb, nsK hb, hbb⟩, let ⟨mc, h1, h2⟩ := hlim; ⟨mc, nsK h1, h2⟩⟩
    have e0 : Env0 P w K mg (hidT s₁.heap H) callerA [] s₁ H := ⟨rfl, hM, fun b o e => of_hidT e, Nat.le_of_eq (hidT_size _ _), trivial, fun b hb => absurd (show b ∈ ([] : List Addr) from hb) (by simp), hok, .of_eq hg⟩
    refine codeAny_mono ((F _ hKb (nsK hns)).run callerA [] s₁ H ⟨[.ref a], []⟩ [.ref a] [.ref a] _ _ hr rfl e0 (hbind s₁ (.ref a)) (.cons rfl .nil) (hsp H hS)) fun r s' h => ?_
    cases r with
    | error e => exact False.elim h
    | ok fl =>
      cases fl with
      | next => exact False.elim h
      | brk => exact False.elim h
      | cont => exact False.elim h
      | ret u =>
        obtain ⟨v, H', os, bare, un, hok', r', q⟩ := h
        obtain rfl : v = .bl true := q
        obtain rfl : u = Value.bool true := r'
        refine ⟨rfl, OldK.of_keep fun b o e => ?_, os, bare⟩
        rcases hO b with q | ⟨ob, xs, z⟩
        · exact un.keep b o e q (by intro z; exact absurd (show b ∈ ([] : List Addr) from z) (by simp)) (by simp)
        · obtain ⟨e1, _⟩ := hok b _ z
          obtain ⟨e2, _⟩ := hok' b _ (un.frzs b ob _ z)
          rw [e] at e1
          cases e1
          exact e2
  cases hk : K.lookup a with
  | some o =>
    have e := KX a o hk
    rw [ha] at e
    cases e
    exact core (fun _ => none) (fun _ => .inl rfl) (.inr ⟨_, vs.toArray, _, hk, rfl, rfl, rfl, by rw [List.size_toArray, hi.length]; exact hl, by simpa using rv⟩) (fun b u z => by have z' : (none : Option HO) = some u := z; cases z') fun b z => absurd rfl z
  | none =>
    have yes : ∀ {b : Addr}, b = a → (if b = a then some (HO.frz { cls := .type "list", data := .seq vs.toArray } (.lst (ns.map V.int))) else none) = some (HO.frz { cls := .type "list", data := .seq vs.toArray } (.lst (ns.map V.int))) := fun h => if_pos h
    have no : ∀ {b : Addr}, b ≠ a → (if b = a then some (HO.frz { cls := .type "list", data := .seq vs.toArray } (.lst (ns.map V.int))) else none) = none := fun h => if_neg h
    refine core (fun b => if b = a then some (.frz { cls := .type "list", data := .seq vs.toArray } (.lst (ns.map V.int))) else none) (fun b => ?_) (.inl (.inr ⟨{ cls := .type "list", data := .seq vs.toArray }, yes rfl⟩)) (fun b u z => ?_) fun b z => ⟨Classical.byContradiction fun h => z (no h), hk⟩
    · by_cases h : b = a
      · exact .inr ⟨_, _, yes h⟩
      · exact .inl (no h)
    · by_cases h : b = a
      · have z' := (yes h).symm.trans z
        cases z'
        subst h
        exact ⟨ha, by rw [List.length_map]; exact hl, vs, _, rv, ha⟩
      · have z' := (no h).symm.trans z
        cases z'
theorem walkG {l : PySem.W.OpenLaw} {n k : Nat} {q : Program} {loose : List Str} {XP : (Str → Option Value) → Heap → Prop} {YP : World → Heap → Prop} {d : DefRec} {x : Str} {sp : PySem.W.Frag → Sp}
    (hn : l.most = some n) (hn2 : n ≤ sizeLine) (hdf : d.params.defaults = []) (hr : Room k callerA)
    (F : ∀ (w : World) (mg : Str → Option Value) (fa : Addr) (h : Heap), YP w h → h.Ns mainGlobals mg → mg d.name = some (.ref fa) → ∃ (K : PySem.W.Frag) (fd : FuncData), K.In h ∧ (∀ (s : Shared) (u : Value), BindsTo s fd ⟨[u], []⟩ [(x, u)]) ∧
      ∀ base : Heap, K.In base → base.Ns mainGlobals mg → FnOkG l.prog w K mg base k fa fd [x] (sp K))
    (hsp : ∀ (K : PySem.W.Frag) (H : Hp) (a : Addr) (ns : List Int), SqL K H a (ns.map V.int) → sp K [.ref a] H (fun v _ => v = .bl true) fun _ _ _ => False) :
    PySem.W.WalkO q loose XP YP l.row.toRowW d [] (fun f vs => PySem.call f vs) := by
  refine Att.attach_callB hn hdf fun w s₀ s₁ mg mb fa o pm cd doc a vs ns G Y ho hd hcd hmg hobj hints hlen hbits hg => ?_
  obtain ⟨K, fd, KX, hb, hF⟩ := F w mg fa _ Y G.T.g hmg
  exact law_callG KX G.T.g G.T.b G.T.builtins G.T.nolimit hg hobj hints (Nat.le_trans hlen hn2) hr hF hb fun H hS => hsp K H a ns hS
end L2.My
end
section
set_option Elab.async false
set_option linter.all false
set_option maxRecDepth 100000
set_option maxHeartbeats 4000000
/-! Own errors raised, and a def that calls what it got and names the error. -/
namespace L2.My
open PySem PySem.Spec PyProof.Rows
section
variable {X : Cx}
/-- what gives a new exception without a dict back makes an exception -/
theorem pmk_x {e : Expr} {te : TE} (hx : X.ex = []) (he : PE X e te) : PMk X e (fun σ H Q => te σ H fun x H1 => ∃ a C, x = .ref a ∧ H1 a = some (exo a C none) ∧ Fr0 X.H_0 a ∧ Raises X (.ref C) ∧ Q (.ref C) none (delH H1 a)) := by
  intro pins s σ H Q I h
  refine wpAny_mono (he.run pins s σ H _ I h) (fun u s1 hu => ?_) fun _ _ x => x
  obtain ⟨v, H1, I1, r1, a, C, rfl, ha, h0, hr, q⟩ := hu
  cases r1
  obtain ⟨t1, ho⟩ := exo_at I1.hok ha
  obtain ⟨G, gs, ga, J⟩ := I1.untrack ha h0 hx
  exact ⟨a, _, _, { s1 with heap := G }, delH H1 a, .ref C, none, rfl, J, gs, ga, ho, ⟨rfl, rfl⟩, rfl, rfl, delH_same, rfl, I1.bare, hr, q⟩
/-- __init__ that does nothing -/
def spNo : Sp := fun vs H Q _ => ∃ a, vs = [.ref a] ∧ Q .non H
/-- the facts by which a class whose __init__ does nothing is made -/
structure Ini0 (P : Program) (w : World) (K : PySem.W.Frag) (mg : Str → Option Value) (base : Heap) (C : Addr) : Prop where
  o : OexC K C
  f : ∃ fI fd, PySem.W.findIn K (.ref C) "__init__" = some (some (.ref fI)) ∧ PySem.W.typeIn K (.ref fI) = some (.type "function") ∧ FnOk P w K mg base CX0 1 fI fd ["self"] spNo ∧ Binds K fd ["self"] []
/-- raise X() -/
theorem pmk_no {C : Addr} {x : Str} {p pos : Pos} (T : Ini0 X.prog X.w X.K X.mg X.base C) (hx : X.ex = []) (hr : Room 2 X.A) (hg : Gl X x) (hm : X.mg x = some (.ref C)) (hdb : (x == ("__debug__" : Str)) = false := by decide) :
    PMk X (.Call (.Name x p) [] [] pos) (fun σ H Q => (∀ a, H a = none → X.H_0 a = none) ∧ Q (.ref C) none H) := by
  obtain ⟨fI, fd, i1, i2, F, b⟩ := T.f
  intro pins s σ H Q I h
  obtain ⟨h0, q⟩ := h
  refine pmk_x hx (pe_mkx0 (CX := CX0) T.o i1 i2 F hr b .nil (fun _ _ _ _ _ _ _ z => z.elim) hg hm hdb) pins s σ H Q I ?_
  refine ⟨by decide, fun a ha => ⟨a, rfl, rfl, a, C, rfl, upd_same, fr0_none (h0 a ha), raises_own T.o.exC T.o.tyC, ?_⟩⟩
  rw [delH_new ha]
  exact q
/-- isinstance of the caught exception, whatever it is -/
def rIsC (K : PySem.W.Frag) (a : Addr) (cls : Value) (d : Option Addr) : List V → Hp → VK → Prop := fun xs H Q => ∃ (D : Addr) (c : V) (cv : Value) (b : Bool), cls = .ref D ∧ d = none ∧ ExcC K D ∧ xs = [.ref a, c] ∧ (∀ u, RelV c u → u = cv) ∧ PySem.W.kitOne K (.ref D) cv = some b ∧ Q (.bl b) H
theorem call_isC {a : Addr} {oe : Obj} {cls : Value} {d : Option Addr} {pn : List (Addr × Obj)} (hz : Zc cls d oe) (hf : ∃ vs, oe.data = .fields vs) : CallR (X.suite a ((a, oe) :: pn)) (.builtin "isinstance") (rIsC X.K a cls d) := by
  intro pins s σ H xs us Q I r h
  obtain ⟨D, c, cv, b, rfl, rfl, C, rfl, hcv, e, q⟩ := h
  exact call_isE C hz hf pins s σ H _ us Q I r ⟨c, cv, b, rfl, hcv, e, q⟩
theorem XC.exc {K : PySem.W.Frag} {C : Addr} (T : XC K C) : ExcC K C := ⟨T.hga, T.hgt, T.o.exC, T.hd, T.ha, T.hn, T.ht, T.hm⟩
end
end L2.My
end
section
set_option Elab.async false
set_option linter.all false
set_option maxRecDepth 100000
set_option maxHeartbeats 4000000
/-! Trees as they stand; made of what is drawn; data that is shown. -/
namespace L2.My
open PySem PySem.Spec PyProof.Rows
def TreeAt (H : Hp) (C x dx la na : Addr) (h : Nat) (ls : List Lf) (ns : List Nd) : Prop := H x = some (.ins C dx [("height", .int (h : Nat)), ("leaves", .ref la), ("nodes", .ref na)]) ∧ LvsAt H la ls ∧ NdsAt H na ns
theorem depM {α : Type} {f : α → PyData} {n : Nat} (h : ∀ x, PyData.depth (f x) ≤ n) : ∀ xs : List α, PyData.depthAll (xs.map f) ≤ n + 1
  | [] => by
    simp only [List.map_nil, PyData.depthAll]
    omega
  | x :: r => by
    have h1 := depM h r
    have h2 := h x
    simp only [List.map_cons, PyData.depthAll]
    omega
theorem dep_tup {α : Type} {f : α → PyData} {n : Nat} (h : ∀ x, PyData.depth (f x) ≤ n) (xs : List α) : PyData.depth (.tuple (xs.map f)) ≤ n + 2 := by
  have := depM h xs
  simp only [PyData.depth]
  omega
theorem dep_lf (l : Lf) : PyData.depth (dLf l) ≤ 4 := by
  cases l with
  | none => simp only [dLf, PyData.depth]; omega
  | some p => simp only [dLf, PyData.depth, PyData.depthAll]; omega
theorem dep_nd (n : Nd) : PyData.depth (dNd n) ≤ 8 := by
  have h1 := dep_tup (f := fun (j : Nat) => PyData.int j) (n := 1) (fun x => by simp only [PyData.depth]; omega) n.2.2
  simp only [dNd, dNats, PyData.depth, PyData.depthAll] at h1 ⊢
  omega
theorem dep_lvs (ls : List Lf) : PyData.depth (dLvs ls) ≤ 6 := dep_tup dep_lf ls
theorem dep_nds (ns : List Nd) : PyData.depth (dNds ns) ≤ 10 := dep_tup dep_nd ns
theorem shaped_of {d : PyData} (h1 : Nice d) (h2 : PyData.depth d ≤ 40) : SeqAt.shaped d = true := by
  simp only [SeqAt.shaped, h1.cl, Bool.true_and]
  exact decide_eq_true (by omega)
theorem nice_lvs {ls : List Lf} (h : ∀ l ∈ ls, GLf l) : Nice (dLvs ls) := .tup (.map fun l hl => nice_lf (h l hl))
theorem nice_nds {ns : List Nd} (h : ∀ n ∈ ns, GNd n) : Nice (dNds ns) := .tup (.map fun n hn => nice_nd (h n hn))
def dPt (h : Nat) (ls : List Lf) (ns : List Nd) : PyData := .list [.int (h : Nat), dLvs ls, dNds ns]
theorem nice_h {h : Nat} (hh : h ≤ 8) : Nice (.int (h : Nat)) := .int (Nat.le_trans (show ((h : Nat) : Int).natAbs ≤ 8 by omega) (by decide))
theorem shaped_pt {h : Nat} {ls : List Lf} {ns : List Nd} (g : GTr h ls ns) : SeqAt.shaped (dPt h ls ns) = true := by
  have h1 := dep_lvs ls
  have h2 := dep_nds ns
  refine shaped_of (.lst (.cons (nice_h g.h8) (.cons (nice_lvs g.gl) (.cons (nice_nds g.gn) .nil)))) ?_
  simp only [dPt, PyData.depth, PyData.depthAll]
  omega
theorem eqv_pt (h h2 : Nat) (ls ls2 : List Lf) (ns ns2 : List Nd) : PyData.eqv (dPt h ls ns) (dPt h2 ls2 ns2) = decide (h = h2 ∧ ls = ls2 ∧ ns = ns2) := by
  unfold dPt
  rw [PyData.eqv, PyData.eqvAll, PyData.eqvAll, PyData.eqvAll, PyData.eqvAll, eqv_int, eqv_lvs, eqv_nds, Bool.and_true, ← Bool.decide_and, ← Bool.decide_and]
  exact decide_eq_decide.mpr (by rw [Int.natCast_inj])
theorem dpPt {K : PySem.W.Frag} {H : Hp} {p la na : Addr} {h : Nat} {ls : List Lf} {ns : List Nd} (hp : H p = some (.lst [.int (h : Nat), .ref la, .ref na])) (h1 : LvsAt H la ls) (h2 : NdsAt H na ns) : Dp K H (.ref p) (dPt h ls ns) := .lst (.of hp) (.cons (.int _) (.cons (dpLvs h1) (.cons (dpNds h2) .nil)))
/-- what isinstance asks of the class -/
structure TrI (K : PySem.W.Frag) (C : Addr) : Prop where
  ha : PySem.W.findIn K (.ref C) "__class__" = some (some (.builtin "object.__class__"))
  hn : PySem.W.specialIn K (.builtin "object.__class__") "__get__" = some (some (.builtin "getset_descriptor.__get__"))
  htk : PySem.W.takesIn K (.builtin "object.__class__") = some true
  hm : PySem.W.mroIn K C (.type "object") = some true
  self : PySem.W.kitOne K (.ref C) (.ref C) = some true
def spEq (K : PySem.W.Frag) (C : Addr) : Sp := fun vs H Q _ => ∃ x dx la na h ls ns y, vs = [.ref x, y] ∧ TreeAt H C x dx la na h ls ns ∧ GTr h ls ns ∧
  ((∃ z dz la2 na2 h2 ls2 ns2, y = .ref z ∧ TreeAt H C z dz la2 na2 h2 ls2 ns2 ∧ GTr h2 ls2 ns2 ∧ Q (.bl (decide (h = h2 ∧ ls = ls2 ∧ ns = ns2))) H) ∨ ∃ t, TyX K H y t ∧ PySem.W.kitOne K t (.ref C) = some false ∧ Q (.bl false) H)
structure EqT (P : Program) (w : World) (K : PySem.W.Frag) (mg : Str → Option Value) (base : Heap) (k : Nat) (C : Addr) where
  f : Addr
  fd : FuncData
  F : FnOk P w K mg base CX0 k f fd ["self", "other"] (spEq K C)
  hs : PySem.W.findIn K (.ref C) "__eq__" = some (some (.ref f))
  hf : PySem.W.isFn K (.ref f) = true
  b : Binds K fd ["self", "other"] []
  nf : PySem.W.notFirst K C (.ref C) = true
  nt : PySem.W.notFirst K C (.type "tuple") = true
  kt : PySem.W.kitOne K (.type "tuple") (.ref C) = some false
/-- what makes a tree -/
structure MkT (P : Program) (w : World) (K : PySem.W.Frag) (mg : Str → Option Value) (base : Heap) (k : Nat) (C B : Addr) where
  f : Addr
  fd : FuncData
  M : Mk K C f
  F : FnOk P w K mg base (CX P w) k f fd ["self", "height", "leaves", "nodes"] (spTree C B)
  g : mg "Tree" = some (.ref C)
  b : Binds K fd ["self", "height", "leaves", "nodes"] []
theorem pass_no {X : Cx} : Passes (CX X.prog X.w) X E0 := fun pins σ H s e s' I h => by
  obtain ⟨_, _, _, _, _, _, _, _, _, _, _, _, hE⟩ := h
  exact hE.elim
theorem DrT.gtr {b la na : Addr} {H : Hp} {h : Nat} {ls : List Lf} {ns : List Nd} (d : DrT h ls ns) : GTr h ls ns := by
  refine ⟨d.h8, d.l256, d.gl, d.nl, fun n hn => ?_⟩
  have r := d.gn n hn
  have h8 := d.h8
  have hl := d.l256
  exact ⟨by have := r.lh; omega, r.l1, r.b128 h8, r.k0, r.k1, r.le, fun j hj => by
    obtain ⟨_, z, hz⟩ := r.as j hj
    have := (List.getElem?_eq_some_iff.mp hz).1
    omega⟩
section
variable {P : Program} {w : World} {K : PySem.W.Frag} {mg : Str → Option Value} {base : Heap} {C B : Addr}
theorem scEq : FnScope ["self", "other"] ["self", "other"] (defScope (mT 1)) := ⟨rfl, rfl, rfl, by decide +kernel, rfl, by decide +kernel, by decide +kernel⟩
theorem ok_eq {f : Addr} {fd : FuncData} {k : Nat} (F : Fun K "__eq__" "Tree.__eq__" (mT 1) f fd) (T : Tx mg) (c : TrC K C) (ci : TrI K C) (gB : mg "Tree" = some (.ref C)) : FnOk P w K mg base CX0 (k + 1) f fd ["self", "other"] (spEq K C) := by
  refine F.ok scEq (fun vs H Q E h => ?_) (fun cdv A outer s H vs Q E hr h => ?_)
  · obtain ⟨x, dx, la, na, h, ls, ns, y, rfl, _⟩ := h
    rfl
  · obtain ⟨x, dx, la, na, h, ls, ns, y, rfl, ⟨hx, hL, hN⟩, g, q⟩ := h
    refine ⟨_, (pss_cons (ps_if (pt_not (pt_val (pe_callB call_isi (by rfl) T.isi (by decide +kernel) (pa_cons (pv 1) (pa_cons (pe_glob (v := .ref C) (by rfl) gB rfl) pa_nil))))) (pss_one (ps_ret pe_bl)) pss_nil) (pss_one (ps_ret (pe_and (pe_cmpR op_eq (pe_fld (pv 0) rfl) (pe_fld (pv 1) rfl) (nomark _)) (pe_and (pe_cmpR (op_eqD hr.units) (pe_fld (pv 0) rfl) (pe_fld (pv 1) rfl) (nomark _)) (pe_one (pe_cmpR (op_eqD hr.units) (pe_fld (pv 0) rfl) (pe_fld (pv 1) rfl) (nomark _)))))))), ?_⟩
    rcases q with ⟨z, dz, la2, na2, h2, ls2, ns2, rfl, ⟨hz, hL2, hN2⟩, g2, q⟩ | ⟨t, ht, hk, q⟩
    · refine ⟨_, rfl, _, _, _, _, true, rfl, .own C, .base (.ins hz c.cls ci.ha ci.hn ci.htk ci.hm), ci.self, _, rfl, iteF ?_⟩
      refine ⟨_, rfl, _, _, _, _, _, rfl, hx, c.cls, c.na _ (by simp), rfl, _, rfl, _, _, _, _, _, rfl, hz, c.cls, c.na _ (by simp), rfl, rfl, _, rfl, ?_⟩
      have eh : decide (V.int (h : Nat) = V.int (h2 : Nat)) = decide (h = h2) := by
        rw [dec_int, Bool.eq_iff_iff, beq_iff_eq, decide_eq_true_iff]
        omega
      rw [eh]
      by_cases h0 : h = h2
      · rw [decide_eq_true h0]
        refine iteT ?_
        refine ⟨_, rfl, _, _, _, _, _, rfl, hx, c.cls, c.na _ (by simp), rfl, _, rfl, _, _, _, _, _, rfl, hz, c.cls, c.na _ (by simp), rfl, ?_⟩
        refine ⟨_, _, dpLvs hL, dpLvs hL2, shaped_of (nice_lvs g.gl) (Nat.le_trans (dep_lvs ls) (by decide)), shaped_of (nice_lvs g2.gl) (Nat.le_trans (dep_lvs ls2) (by decide)), _, rfl, ?_⟩
        rw [eqv_lvs]
        by_cases h1 : ls = ls2
        · rw [decide_eq_true h1]
          refine iteT ?_
          refine ⟨_, rfl, _, _, _, _, _, rfl, hx, c.cls, c.na _ (by simp), rfl, _, rfl, _, _, _, _, _, rfl, hz, c.cls, c.na _ (by simp), rfl, ?_⟩
          refine ⟨_, _, dpNds hN, dpNds hN2, shaped_of (nice_nds g.gn) (Nat.le_trans (dep_nds ns) (by decide)), shaped_of (nice_nds g2.gn) (Nat.le_trans (dep_nds ns2) (by decide)), ?_⟩
          rw [eqv_nds]
          have e : decide (h = h2 ∧ ls = ls2 ∧ ns = ns2) = decide (ns = ns2) := decide_eq_decide.mpr ⟨fun z => z.2.2, fun z => ⟨h0, h1, z⟩⟩
          rw [e] at q
          exact q
        · rw [decide_eq_false h1]
          rw [decide_eq_false (fun z => h1 z.2.1)] at q
          exact iteF q
      · rw [decide_eq_false h0]
        rw [decide_eq_false (fun z => h0 z.1)] at q
        exact iteF q
    · exact ⟨_, rfl, _, _, _, _, false, rfl, .own C, ht, hk, _, rfl, iteT q⟩
end
section
variable {K : PySem.W.Frag} {C B : Addr}
theorem mk_use {σ : St} {i : Nat} {p b : Addr} {h l n : V} {H : Hp} {Q : VK} (e : σ[i]? = some (some (.ref p))) (hp : H p = some (.lst [h, l, n])) (th : Thg b H h) (tl : Thg b H l) (tn : Thg b H n) (hb : badT H h l n = none)
    (q : ∀ H' x dx, Same H H' → H x = none → H' x = some (.ins C dx [("height", h), ("leaves", l), ("nodes", n)]) → Q (.ref x) H') : tMake C (spTree C B) [] E0 (tCons (tOp (rIxL K) (tVar i) (tC (.int 0))) (tCons (tOp (rIxL K) (tVar i) (tC (.int 1))) (tCons (tOp (rIxL K) (tVar i) (tC (.int 2))) tNil))) σ H Q := by
  refine ⟨_, e, p, _, _, h, rfl, rfl, .of hp, atI_nat (j := 0) rfl, _, e, p, _, _, l, rfl, rfl, .of hp, atI_nat (j := 1) rfl, _, e, p, _, _, n, rfl, rfl, .of hp, atI_nat (j := 2) rfl, fun x dx nx ndx ne => ?_⟩
  have s1 : Same H (upd (upd H dx (.own x)) x (.ins C dx [])) := (same_upd ndx).trans (same_upd (by rw [upd_ne (Ne.symm ne)]; exact nx))
  refine ⟨b, x, dx, h, l, n, rfl, upd_same, th.same s1, tl.same s1, tn.same s1, fun hn H' bl hx' => ⟨rfl, ?_⟩, fun z hz H' d sm nd ed => ?_⟩
  · have s3 : Same H H' := fun p o hp => bl p o (by
      intro hm
      rw [List.mem_singleton.mp hm, nx] at hp
      cases hp) (s1 _ _ hp)
    exact q H' x dx s3 nx hx'
  · rw [badT_bl tl tn (.same s1), hb] at hz
    cases hz
end
/-- repr of what is data -/
def rRepr (K : PySem.W.Frag) : List V → Hp → VK → Prop := fun xs H Q => ∃ (a : Addr) (d : PyData), xs = [.ref a] ∧ Dp K H (.ref a) d ∧ Nice d ∧ d.depth ≤ 40 ∧ d.bulk ≤ 306100 ∧ Q (.str d.shown) H
theorem call_repr {X : Cx} (hg : X.A.guards = some []) (hu : X.A.units + 64 < cLine) : CallR X (.builtin "repr") (rRepr X.K) := by
  intro pins s σ H xs us Q I r h
  obtain ⟨a, d, rfl, dp, nd, dd, db, q⟩ := h
  obtain ⟨u, rfl, ru⟩ : ∃ u, us = [u] ∧ RelV (.ref a) u := by
    cases r with
    | cons r1 rs => cases rs; exact ⟨_, rfl, r1⟩
  obtain rfl : u = Value.ref a := ru
  obtain ⟨as, rd⟩ := Dp.reads I d _ _ dp rfl
  exact PySem.repr_of_reads' rd nd.sh (fun z => by rw [nd.hd] at z; cases z) hg (by omega) (fun _ _ e => e) (fun h' u tk hk => ⟨.str d.shown, H, I.kept (t' := tk) hk, ⟨u, rfl⟩, q⟩) (fits_of nd db)
theorem low_str {z : Str} (h : z.cps.toList.all (fun c => decide (c < 128)) = true) : Nice (.str z) := .str fun c hc => of_decide_eq_true (List.all_eq_true.mp h c hc)
end L2.My
end
section
set_option Elab.async false
set_option linter.all false
set_option maxRecDepth 100000
set_option maxHeartbeats 4000000
/-! A dict whose keys are pairs of a text and a tuple of texts and ints. -/
namespace L2.Bk
open L2.My PySem PySem.Spec PyProof.Rows
abbrev Ent : Type := Str × List Key
section
variable {prog : Program} {w : World}
def IsEnt (prog : Program) (w : World) (h : Heap) (k : Ent) (a : Addr) : Prop := ∃ o t p n, h.get? a = some o ∧ o.cls = .type "tuple" ∧ o.data = .seq #[.str k.1 t, .ref p] n ∧ IsTupleKey (mixKind prog w) h k.2 p
theorem IsEnt.typeIs {s : Shared} {k : Ent} {a : Addr} (x : IsEnt prog w s.heap k a) : s.TypeIs (.ref a) "tuple" := let ⟨o, _, _, _, ho, hc, _⟩ := x; ⟨o, ho, hc⟩
theorem IsEnt.inj {h : Heap} {a : Addr} {x y : Ent} (hx : IsEnt prog w h x a) (hy : IsEnt prog w h y a) : x = y := by
  obtain ⟨o, t, p, n, ho, _, hd, hi⟩ := hx
  obtain ⟨o', t', p', n', ho', _, hd', hi'⟩ := hy
  obtain rfl : o = o' := Option.some.inj (ho.symm.trans ho')
  rw [hd] at hd'
  injection hd' with h1 _
  have h2 : [Value.str x.1 t, .ref p] = [Value.str y.1 t', .ref p'] := congrArg Array.toList h1
  injection h2 with h3 h4
  injection h3 with h3 _
  injection h4 with h4 _
  injection h4 with h4
  subst h4
  exact Prod.ext h3 (hi.inj hi')
theorem IsEnt.keeps {h h' : Heap} {k : Ent} {a d : Addr} {o : Obj} {es ep} (x : IsEnt prog w h k a) (ho : h.get? d = some o) (hd : o.data = .dict es ep) (hs : Heap.SameBut d h h') : IsEnt prog w h' k a := by
  obtain ⟨o', t, p, n, ho', hc, hd', hi⟩ := x
  have hne : a ≠ d := by
    rintro rfl
    obtain rfl : o' = o := Option.some.inj (ho'.symm.trans ho)
    rw [hd] at hd'; exact nomatch hd'
  exact ⟨o', t, p, n, (hs.2 a hne).trans ho', hc, hd', hi.keeps ho hd hs⟩
variable {A : Around} {E : Value → Shared → Prop} {s : Shared}
def entHash (prog : Program) (w : World) (k : Ent) : Int := reduceHash (Builtin.Tuple.tupleHashOf [hashStr w k.1, tupleKeyHash (mixKind prog w) k.2])
theorem pyHash_ent {k : Ent} {a : Addr} {Q : Int → Shared → Prop} (hu : A.units + 1 < cLine) (hk : IsEnt prog w s.heap k a) (h : Q (entHash prog w k) { s with toks := s.toks + (k.2.length + 3) }) :
    wpAny (model prog w) A (pyHash (.ref a)) Q E s := by
  have hT := hk.typeIs
  obtain ⟨o, t, p, n, ho, _, hd, hi⟩ := hk
  unfold pyHash
  first | unfold pyHashByItsType | skip
  first | refine wpAny_bind (wpAny_cRoomFor_or (.inr (by omega)) ?_) | skip
  refine wpAny_bind (wpAny_specialOf hT F.slot_tuple_hash.lookup ?_)
  show wpAny _ _ (if (some (Value.builtin "tuple.__hash__") == some Value.none) = true then _ else _) Q E s
  rw [if_neg (by rw [beq_builtin_none]; exact Bool.false_ne_true)]
  refine wpAny_bind (wpAny_specialOf hT F.slot_tuple_hash.lookup ?_)
  show wpAny _ _ (callSpecialIfBoundUnlessNone? (.ref a) "__hash__" _ >>= _) Q E s
  refine wpAny_bind (wpAny_callSpecialIfBoundUnlessNone?_slot hT F.slot_tuple_hash (wpAny_call_entry F.slot_tuple_hash hT F.entry_tuple_hash ?_ (F.args_tuple_hash_1 _)))
  show wpAny _ _ (Builtin.Tuple.tupleItemsOf (.ref a) >>= _) _ _ s
  refine wpAny_bind (wpAny_tupleItemsOf ho hd ?_)
  refine wpAny_bind ?_
  rw [← Array.forIn_toList]
  show wpAny _ _ (forIn [Value.str k.1 t, Value.ref p] _ _) _ _ s
  rw [List.forIn_cons]
  refine wpAny_bind (wpAny_bind (wpAny_pyHash_str ?_))
  refine wpAny_pure ?_
  show wpAny _ _ (forIn [Value.ref p] _ _) _ _ _
  rw [List.forIn_cons]
  refine wpAny_bind (wpAny_bind (wpAny_pyHash_tuple (knd := mixKind prog w) (ks := k.2) (show A.in1.units < cLine from hu) hi ?_))
  refine wpAny_pure ?_
  show wpAny _ _ (forIn ([] : List Value) _ _) _ _ _
  rw [List.forIn_nil]
  refine wpAny_pure ?_
  show wpAny _ _ (retInt (Builtin.Tuple.tupleHashOf [hashStr w k.1, tupleKeyHash (mixKind prog w) k.2])) _ _ _
  refine wpAny_ret_mkInt ?_
  show wpAny _ _ (if (decide (-(2 : Int) ^ 63 ≤ Builtin.Tuple.tupleHashOf [hashStr w k.1, tupleKeyHash (mixKind prog w) k.2]) && decide (Builtin.Tuple.tupleHashOf [hashStr w k.1, tupleKeyHash (mixKind prog w) k.2] < 2 ^ 63)) = true then _ else _) Q E _
  unfold entHash reduceHash at h
  by_cases hr : (decide (-(2 : Int) ^ 63 ≤ Builtin.Tuple.tupleHashOf [hashStr w k.1, tupleKeyHash (mixKind prog w) k.2]) && decide (Builtin.Tuple.tupleHashOf [hashStr w k.1, tupleKeyHash (mixKind prog w) k.2] < 2 ^ 63)) = true
  · rw [if_pos hr]
    rw [if_pos hr] at h
    exact wpAny_pure (by simpa [Nat.add_assoc, Nat.add_comm, Nat.add_left_comm] using h)
  · rw [if_neg hr]
    rw [if_neg hr] at h
    exact wpAny_bind (wpAny_rule (wpAny_pure (by simpa [Nat.add_assoc, Nat.add_comm, Nat.add_left_comm] using h)))
theorem eq_tree {x y : Ent} {a b : Addr} {P : Fin → Shared → Prop} (hu : A.units < cLine) (hx : IsEnt prog w s.heap x a) (hy : IsEnt prog w s.heap y b) (h : P (.done (.ret (.bool (decide (x = y))))) s) :
    wpAny (model prog w) A (Builtin.«tuple.__eq__» ⟨[.ref a, .ref b], []⟩) P E s := by
  have hTb := hy.typeIs
  obtain ⟨oa, ta, pa, na, hoa, _, hda, hia⟩ := hx
  obtain ⟨ob, tb, pb, nb, hob, _, hdb, hib⟩ := hy
  show wpAny _ _ (isInstance (.ref b) (.type "tuple") >>= _) _ _ s
  refine wpAny_bind (wpAny_isInstance hTb isSubtype_tuple_tuple ?_)
  simp only [Bool.not_true, Bool.false_eq_true, if_false]
  refine wpAny_bind (wpAny_tupleItemsOf hoa hda ?_)
  refine wpAny_bind (wpAny_tupleItemsOf hob hdb ?_)
  refine wpAny_bind ?_
  show wpAny _ _ (forIn [(Value.str x.1 ta, Value.str y.1 tb), (Value.ref pa, Value.ref pb)] _ _) _ _ s
  rw [List.forIn_cons]
  refine wpAny_bind (wpAny_bind (wpAny_eqBool_str ?_))
  by_cases e1 : x.1 = y.1
  · rw [decide_eq_true e1]
    simp only [Bool.not_true, Bool.false_eq_true, if_false]
    refine wpAny_pure ?_
    show wpAny _ _ (forIn [(Value.ref pa, Value.ref pb)] _ _) _ _ _
    rw [List.forIn_cons]
    refine wpAny_bind (wpAny_bind (wpAny_eqBool_tuple (knd := mixKind prog w) (x := x.2) (y := y.2) hu hia hib ?_))
    by_cases e2 : x.2 = y.2
    · rw [decide_eq_true e2]
      have e : x = y := Prod.ext e1 e2
      rw [decide_eq_true e] at h
      simp only [Bool.not_true, Bool.false_eq_true, if_false]
      refine wpAny_pure ?_
      show wpAny _ _ (forIn ([] : List (Value × Value)) _ _) _ _ _
      rw [List.forIn_nil]
      exact wpAny_pure (wpAny_pure h)
    · rw [decide_eq_false e2]
      have e : ¬ x = y := fun z => e2 (congrArg Prod.snd z)
      rw [decide_eq_false e] at h
      simp only [Bool.not_false, if_true]
      exact wpAny_bind (wpAny_pure (wpAny_pure (wpAny_pure (wpAny_pure h))))
  · rw [decide_eq_false e1]
    have e : ¬ x = y := fun z => e1 (congrArg Prod.fst z)
    rw [decide_eq_false e] at h
    simp only [Bool.not_false, if_true]
    exact wpAny_bind (wpAny_pure (wpAny_pure (wpAny_pure (wpAny_pure h))))
theorem eqBool_ent {x y : Ent} {a b : Addr} {Q : Bool → Shared → Prop} (hu : A.units + 1 < cLine) (hx : IsEnt prog w s.heap x a) (hy : IsEnt prog w s.heap y b) (h : Q (decide (x = y)) s) :
    wpAny (model prog w) A (eqBool (.ref a) (.ref b)) Q E s := by
  unfold eqBool
  try with_reducible refine wpAny_holding ?_
  show wpAny _ _ (if (Value.ref a == Value.ref b) = true then _ else _) Q E s
  by_cases hab : (Value.ref a == Value.ref b) = true
  · rw [if_pos hab]
    have e : a = b := by have := eq_of_beq hab; injection this
    subst e
    obtain rfl := hx.inj hy
    exact wpAny_bind (wpAny_rule (wpAny_pure (by simpa using h)))
  · rw [if_neg hab]
    exact wpAny_bind (wpAny_richCompare_same_room (op := .Eq) hx.typeIs hy.typeIs F.slot_tuple_eq
      (wpAny_call_entry F.slot_tuple_eq hx.typeIs F.entry_tuple_eq (eq_tree (show A.in1.units < cLine from hu) hx hy ⟨_, rfl, (fun e => nomatch e), wpAny_truthy_bool h⟩) (F.args_tuple_eq_2 _ _)) (by omega))
theorem eqIsQuiet_tuple {K : Type} [DecidableEq K] {knd : KeyKind prog w K} (m : Nat) {ks : List K} {a : Addr} {Q : Bool → Shared → Prop} (hk : IsTupleKey knd s.heap ks a) (h : Q true s) : wpAny (model prog w) A (eqIsQuiet (m + 1) (.ref a)) Q E s := by
  have hT := hk.typeIs
  obtain ⟨o, items, n, ho, _, hd, hi⟩ := hk
  unfold eqIsQuiet
  refine wpAny_bind (wpAny_specialOf hT F.slot_tuple_eq.lookup ?_)
  show wpAny _ _ (isInstance (.ref a) (.type "tuple") >>= _) _ _ s
  refine wpAny_bind (wpAny_isInstance hT isSubtype_tuple_tuple ?_)
  simp only [Bool.not_true, Bool.false_eq_true, if_false]
  refine wpAny_bind (wpAny_seqItems ho hd ?_)
  refine wpAny_bind ?_
  show wpAny _ _ (forIn items _ _) _ _ s
  rw [← Array.forIn_toList]
  refine wpAny_forIn_list _ (fun rest r s' => r.1 = none ∧ s' = s ∧ ∀ v ∈ rest, carriedByValue v = true) _ ?_ ?_ _ _ ⟨rfl, rfl, hi.byValue⟩
  · rintro v rest r s' ⟨hr, rfl, hall⟩
    rw [eqIsQuiet_byValue _ (hall v List.mem_cons_self)]
    refine wpAny_bind (wpAny_pure ?_)
    simp only [Bool.not_true, Bool.false_eq_true, if_false]
    exact wpAny_pure ⟨rfl, rfl, fun u hu' => hall u (List.mem_cons_of_mem _ hu')⟩
  · rintro ⟨r1, r2⟩ s' ⟨hr, rfl, _⟩
    simp only at hr
    subst hr
    exact wpAny_pure h
theorem eqIsQuiet_ent {k : Ent} {a : Addr} {Q : Bool → Shared → Prop} (hk : IsEnt prog w s.heap k a) (h : Q true s) : wpAny (model prog w) A (eqIsQuiet 8 (.ref a)) Q E s := by
  have hT := hk.typeIs
  obtain ⟨o, t, p, n, ho, _, hd, hi⟩ := hk
  unfold eqIsQuiet
  refine wpAny_bind (wpAny_specialOf hT F.slot_tuple_eq.lookup ?_)
  show wpAny _ _ (isInstance (.ref a) (.type "tuple") >>= _) _ _ s
  refine wpAny_bind (wpAny_isInstance hT isSubtype_tuple_tuple ?_)
  simp only [Bool.not_true, Bool.false_eq_true, if_false]
  refine wpAny_bind (wpAny_seqItems ho hd ?_)
  refine wpAny_bind ?_
  show wpAny _ _ (forIn #[Value.str k.1 t, Value.ref p] _ _) _ _ s
  rw [← Array.forIn_toList]
  show wpAny _ _ (forIn [Value.str k.1 t, Value.ref p] _ _) _ _ s
  rw [List.forIn_cons, eqIsQuiet_byValue _ (show carriedByValue (Value.str k.1 t) = true from rfl)]
  refine wpAny_bind (wpAny_bind (wpAny_pure ?_))
  simp only [Bool.not_true, Bool.false_eq_true, if_false]
  refine wpAny_pure ?_
  show wpAny _ _ (forIn [Value.ref p] _ _) _ _ s
  rw [List.forIn_cons]
  refine wpAny_bind (wpAny_bind (eqIsQuiet_tuple (knd := mixKind prog w) _ hi ?_))
  simp only [Bool.not_true, Bool.false_eq_true, if_false]
  refine wpAny_pure ?_
  show wpAny _ _ (forIn ([] : List Value) _ _) _ _ s
  rw [List.forIn_nil]
  exact wpAny_pure (wpAny_pure h)
end
def entKind (prog : Program) (w : World) : HeapKind prog w Ent where
  is := IsEnt prog w
  hash := entHash prog w
  draws := fun k => k.2.length + 3
  room := fun A => A.units + 1 < cLine
  inj := fun hx hy => hx.inj hy
  keeps := fun x ho hd hs => x.keeps ho hd hs
  pyHash := fun hu hk h => pyHash_ent hu hk h
  eqBool := fun hu hx hy h => eqBool_ent hu hx hy h
  quiet := fun hk h => eqIsQuiet_ent hk h
end L2.Bk
end
section
set_option Elab.async false
set_option linter.all false
set_option maxRecDepth 100000
set_option maxHeartbeats 4000000
namespace L2.Bk
open L2.My PySem PySem.Spec PyProof.Rows
/-- a pair of a text and a tuple at a -/
def EntAt (H : Hp) (a : Addr) (e : Ent) : Prop := ∃ p, H a = some (.tup [.str e.1, .ref p]) ∧ H p = some (.tup (e.2.map kV))
abbrev NRel : List (Ent × Addr × V) → List (Ent × Addr × Value) → Prop := Paired fun p q => p.1 = q.1 ∧ p.2.1 = q.2.1 ∧ RelV p.2.2 q.2.2
/-- the dict at a: keys, their own pairs, values, in order -/
def NumO (P : Program) (w : World) (a : Addr) (kvs : List (Ent × Addr × V)) : HO := .ext fun h => (kvs.length ≤ sizeLine ∧ (a == sysModules) = false ∧ (kvs.map (·.1)).Nodup) ∧ ∃ xs o es ep, NRel kvs xs ∧ h.get? a = some o ∧ o.ExactDict ∧ o.data = .dict es ep ∧ es.toList = xs.map (entryOfKey (entKind P w))
def NumAt (P : Program) (w : World) (H : Hp) (a : Addr) (kvs : List (Ent × Addr × V)) : Prop := H a = some (NumO P w a kvs) ∧ ∀ x ∈ kvs, EntAt H x.2.1 x.1
def NumRd (P : Program) (w : World) (H : Hp) (a : Addr) (kvs : List (Ent × Addr × V)) : Prop := Rd H a (NumO P w a kvs) ∧ ∀ x ∈ kvs, EntAt H x.2.1 x.1
theorem NumAt.rd {P : Program} {w : World} {H : Hp} {a : Addr} {kvs : List (Ent × Addr × V)} (g : NumAt P w H a kvs) : NumRd P w H a kvs := ⟨.inl g.1, g.2⟩
theorem NRel.keys {kvs : List (Ent × Addr × V)} {xs : List (Ent × Addr × Value)} (r : NRel kvs xs) : kvs.map (·.1) = xs.map (·.1) := by
  induction r with
  | nil => rfl
  | cons h t ih => rw [List.map_cons, List.map_cons, ih, h.1]
theorem NRel.mem {kvs : List (Ent × Addr × V)} {xs : List (Ent × Addr × Value)} (r : NRel kvs xs) : ∀ x ∈ xs, ∃ p ∈ kvs, p.1 = x.1 ∧ p.2.1 = x.2.1 := by
  induction r with
  | nil => intro x hx; exact nomatch hx
  | @cons p q ps qs h t ih =>
    intro x hx
    rcases List.mem_cons.mp hx with rfl | hx
    · exact ⟨p, List.mem_cons_self, h.1, h.2.1⟩
    · obtain ⟨p', hp, e⟩ := ih x hx
      exact ⟨p', List.mem_cons_of_mem _ hp, e⟩
def valN (kvs : List (Ent × Addr × V)) (k : Ent) : Option V := (kvs.find? fun x => decide (x.1 = k)).map (·.2.2)
theorem NRel.val {kvs : List (Ent × Addr × V)} {xs : List (Ent × Addr × Value)} (r : NRel kvs xs) (k : Ent) : RelO (valN kvs k) ((atKey xs k).map (·.2)) := by
  induction r with
  | nil => exact True.intro
  | @cons p q ps qs h t ih =>
    obtain ⟨h1, _, h2⟩ := h
    by_cases e : p.1 = k
    · have e' : q.1 = k := h1.symm.trans e
      have a1 : valN (p :: ps) k = some p.2.2 := by simp [valN, List.find?_cons, e]
      have a2 : (atKey (q :: qs) k).map (·.2) = some q.2.2 := by simp [atKey, List.find?_cons, e']
      rw [a1, a2]
      exact h2
    · have e' : ¬ q.1 = k := fun z => e (h1.trans z)
      simpa [valN, atKey, List.find?_cons, e, e'] using ih
section
variable {P : Program} {w : World} {H : Hp} {h : Heap} {a : Addr}
theorem ent_is {e : Ent} (ok : HOk P w H h) (x : EntAt H a e) : IsEnt P w h e a := by
  obtain ⟨p, h1, h2⟩ := x
  obtain ⟨_, its, r, o, g1, g2, n, g3⟩ := (show ObjOk P w H h a (.tup [.str e.1, .ref p]) from ok a _ h1)
  cases r with
  | @cons _ u1 _ us r1 t1 =>
    cases t1 with
    | @cons _ u2 _ us2 r2 t2 =>
      cases t2
      obtain ⟨t, rfl⟩ := (show ∃ t, u1 = Value.str e.1 t from r1)
      cases (show u2 = Value.ref p from r2)
      exact ⟨o, t, p, n, g1, g2, g3, key_of ok h2⟩
theorem num_of {kvs : List (Ent × Addr × V)} (ok : HOk P w H h) (x : Rd H a (NumO P w a kvs)) (hk : ∀ x ∈ kvs, EntAt H x.2.1 x.1) :
    kvs.length ≤ sizeLine ∧ (a == sysModules) = false ∧ ∃ xs, NRel kvs xs ∧ h.DictOfH (entKind P w) a xs := by
  obtain ⟨⟨⟨z, y, nd⟩, xs, o, es, ep, r, h1, h2, h3, h4⟩, _⟩ := (show ObjOk P w H h a (NumO P w a kvs) from rd_of ok x)
  refine ⟨z, y, xs, r, o, es, ep, h1, h2, h3, h4, fun x hx => ?_, ?_⟩
  · obtain ⟨p, hp, e1, e2⟩ := r.mem x hx
    have q := ent_is ok (hk p hp)
    rw [e1, e2] at q
    exact q
  · rw [← NRel.keys r]; exact nd
theorem num_ok {kvs : List (Ent × Addr × V)} {xs : List (Ent × Addr × Value)} {H' : Hp} {h' : Heap} (z : kvs.length ≤ sizeLine) (y : (a == sysModules) = false) (r : NRel kvs xs) (dd : h'.DictOfH (entKind P w) a xs) : ObjOk P w H' h' a (NumO P w a kvs) := by
  obtain ⟨o, es, ep, h1, h2, h3, h4, _, h5⟩ := dd
  refine ⟨⟨⟨z, y, by rw [NRel.keys r]; exact h5⟩, xs, o, es, ep, r, h1, h2, h3, h4⟩, ⟨o, h1⟩, ?_⟩
  rintro g1 g2 ⟨zz, xs, o, es, ep, r, e1, e2⟩ k
  exact ⟨zz, xs, o, es, ep, r, k o e1, e2⟩
theorem num_empty (h : Heap) (hb : sysModules < h.objs.size) : ObjOk P w H (h.push { cls := .type "dict", data := .dict #[] }) h.objs.size (NumO P w h.objs.size []) :=
  num_ok (Nat.zero_le _) (beq_eq_false_iff_ne.mpr (Ne.symm (Nat.ne_of_lt hb))) .nil (Heap.DictOfH.new h)
theorem valN_none {kvs : List (Ent × Addr × V)} {k : Ent} (h : k ∉ kvs.map (·.1)) : valN kvs k = none := by
  have e : kvs.find? (fun x => decide (x.1 = k)) = none := by
    rw [List.find?_eq_none]
    intro x hx hk
    exact h (List.mem_map.mpr ⟨x, hx, of_decide_eq_true hk⟩)
  rw [valN, e]; rfl
theorem valN_none' {kvs : List (Ent × Addr × V)} {k : Ent} (h : valN kvs k = none) : k ∉ kvs.map (·.1) := by
  intro hm
  obtain ⟨x, hx, rfl⟩ := List.mem_map.mp hm
  unfold valN at h
  rw [Option.map_eq_none_iff, List.find?_eq_none] at h
  exact h x hx (decide_eq_true rfl)
theorem stored_new {kvs : List (Ent × Addr × V)} {xs : List (Ent × Addr × Value)} {k : Ent} {b : Addr} {v : V} {u : Value} (r : NRel kvs xs) (hn : k ∉ kvs.map (·.1)) (rv : RelV v u) : NRel (kvs ++ [(k, b, v)]) (storedH xs k b u) := by
  have q := NRel.val r k
  rw [valN_none hn] at q
  have e : atKey xs k = none := by
    have := RelO.none_of q
    rwa [Option.map_eq_none_iff] at this
  rw [storedH_new e]
  exact PySem.Paired.snoc r ⟨rfl, rfl, rv⟩
end
section
variable {X : Cx} {pins : List (Addr × Obj)} {σ : St} {H : Hp} {s : Shared} {a b : Addr} {y v : V} {u r : Value} {A : Around} {E : Value → Shared → Prop} {kvs : List (Ent × Addr × V)} {k : Ent}
theorem n_get {Q : Value → Shared → Prop} (hu : A.units + 2 < cLine) (I : Inv X pins σ H s) (g : NumRd X.prog X.w H a kvs) (hb : EntAt H b k) (h : ∀ w' s', Inv X pins σ H s' → RelV ((valN kvs k).getD .non) w' → Q w' s') :
    wpAny (model X.prog X.w) A (call (.builtin "dict.get") [.ref a, .ref b]) Q E s := by
  obtain ⟨z, hd, xs, rel, dd⟩ := num_of I.hok g.1 g.2
  exact call_meetsIn PySem.F.slot_dict_get dd.typeIs PySem.F.entry_dict_get (PySem.F.args_dict_get_2 _ _) (meetsH_dict_get (entKind X.prog X.w) a b hd) ⟨(show A.units + 1 + 1 < cLine from hu), k, xs, ent_is I.hok hb, dd, h _ _ (I.tok _) ((NRel.val rel k).getD rfl)⟩
theorem n_getItem {Q : Value → Shared → Prop} (hu : A.units + 2 < cLine) (I : Inv X pins σ H s) (g : NumRd X.prog X.w H a kvs) (hb : EntAt H b k) (hv : valN kvs k = some v) (h : ∀ w' s', Inv X pins σ H s' → RelV v w' → Q w' s') :
    wpAny (model X.prog X.w) A (getItem (.ref a) (.ref b)) Q E s := by
  obtain ⟨z, hd, xs, rel, dd⟩ := num_of I.hok g.1 g.2
  have q := NRel.val rel k
  rw [hv] at q
  obtain ⟨w', hw, rw'⟩ := RelO.some_of (v := v) (o := (atKey xs k).map (·.2)) q
  obtain ⟨p, hp, hp2⟩ := Option.map_eq_some_iff.mp hw
  refine wpAny_getItem_heap (show A.units + 1 + 1 < cLine from hu) (ent_is I.hok hb) dd hp ?_
  rw [hp2]
  exact h w' _ (I.tok _) rw'
theorem n_setItem {Q : Unit → Shared → Prop} (hu : A.units + 2 < cLine) (I : Inv X pins σ H s) (g : NumAt X.prog X.w H a kvs) (hb : EntAt H b k) (hn : k ∉ kvs.map (·.1)) (hz : kvs.length < sizeLine) (rv : RelV v r)
    (h : ∀ s', Inv X pins σ (upd H a (NumO X.prog X.w a (kvs ++ [(k, b, v)]))) s' → Q () s') : wpAny (model X.prog X.w) A (setItem (.ref a) (.ref b) r) Q E s := by
  obtain ⟨z, hd, xs, rel, dd⟩ := num_of I.hok (.inl g.1) g.2
  have hz' : xs.length ≤ sizeLine := by rw [← Paired.length rel]; exact z
  refine wpAny_setItem_heap (hsz := hz') (show A.units + 1 + 1 < cLine from hu) (ent_is I.hok hb) dd fun h' dd' hs => h _ ?_
  refine d_write I (by rw [g.1]; exact True.intro) hs (let ⟨q, _, _, hq, _⟩ := dd'; ⟨q, hq⟩) (num_ok ?_ hd (stored_new rel hn rv) dd')
  rw [List.length_append]; exact hz
theorem n_dictSet {Q : Unit → Shared → Prop} (hu : A.units + 2 < cLine) (I : Inv X pins σ H s) (g : NumAt X.prog X.w H a kvs) (hb : EntAt H b k) (hn : k ∉ kvs.map (·.1)) (hz : kvs.length < sizeLine) (rv : RelV v r)
    (h : ∀ s', Inv X pins σ (upd H a (NumO X.prog X.w a (kvs ++ [(k, b, v)]))) s' → Q () s') : wpAny (model X.prog X.w) A (dictSet a (.ref b) r) Q E s := by
  obtain ⟨z, hd, xs, rel, dd⟩ := num_of I.hok (.inl g.1) g.2
  have hz' : xs.length ≤ sizeLine := by rw [← Paired.length rel]; exact z
  refine wpAny_dictSet_heap (hsz := hz') (show A.units + 1 < cLine by omega) (ent_is I.hok hb) dd fun h' dd' hs => h _ ?_
  refine d_write I (by rw [g.1]; exact True.intro) hs (let ⟨q, _, _, hq, _⟩ := dd'; ⟨q, hq⟩) (num_ok ?_ hd (stored_new rel hn rv) dd')
  rw [List.length_append]; exact hz
theorem num_typeIs (I : Inv X pins σ H s) (g : NumRd X.prog X.w H a kvs) : s.TypeIs (.ref a) "dict" := by
  obtain ⟨_, _, xs, _, dd⟩ := num_of I.hok g.1 g.2
  exact dd.typeIs
end
/-! ### rules -/
def tNGet (P : Program) (w : World) (td ty : TE) : TE := fun σ H Q => td σ H fun x H1 => ∃ a kvs, x = .ref a ∧ NumRd P w H1 a kvs ∧ ty σ H1 fun y H2 => ∃ b k kvs2, y = .ref b ∧ NumRd P w H2 a kvs2 ∧ EntAt H2 b k ∧ Q ((valN kvs2 k).getD .non) H2
def tNIx (P : Program) (w : World) (td ty : TE) : TE := fun σ H Q => td σ H fun x H1 => ty σ H1 fun y H2 => ∃ a b k kvs v, x = .ref a ∧ y = .ref b ∧ NumRd P w H2 a kvs ∧ EntAt H2 b k ∧ valN kvs k = some v ∧ Q v H2
def sNPut (P : Program) (w : World) (td ty tv : TE) : TS := fun D σ H => tv σ H fun v H1 => td σ H1 fun x H2 => ty σ H2 fun y H3 => ∃ a b k kvs, x = .ref a ∧ y = .ref b ∧ NumAt P w H3 a kvs ∧ EntAt H3 b k ∧ k ∉ kvs.map (·.1) ∧ kvs.length < sizeLine ∧ D.nx σ (upd H3 a (NumO P w a (kvs ++ [(k, b, v)])))
def tNNew (P : Program) (w : World) : TE := fun _ H Q => ∀ p, H p = none → Q (.ref p) (upd H p (NumO P w p []))
section
variable {X : Cx} {o i e f value : Expr} {apos cpos pos pos' : Pos} {td ty tx tv : TE}
theorem pe_nget (hu : X.A.units + 2 < cLine) (ho : PE X o td) (he : PE X e ty) (m : M1 X o "get" apos e cpos) : PE X (.Call (.Attribute o "get" apos) [e] [] cpos) (tNGet X.prog X.w td ty) := by
  refine ⟨fun pins s σ H Q I h => ?_⟩
  refine wpAny_Call_method m.base m.few m.line PySem.F.plainAttrs_dict PySem.F.slot_dict_get PySem.F.type_dict_get (thn (ho.run pins s σ H _ I h) fun u s1 ⟨x, H1, I1, rx, a, kvs, ex, d, q1⟩ => ?_)
  subst ex
  obtain rfl : u = Value.ref a := rx
  refine ⟨num_typeIs I1 d, fun b q => ?_, ?_⟩
  · cases q
    obtain ⟨_, _, xs, _, ob, _, _, h1, h2, _⟩ := num_of I1.hok d.1 d.2
    exact ⟨ob, h1, h2.2.1⟩
  rw [m.trees]
  refine Calls.callWith_builtin rfl (Calls.evalArgs_plain (Calls.spliced_cons (thn (he.run pins s1 σ H1 _ I1 q1) fun iv s2 ⟨y, H2, I2, ry, b, k, kvs2, ey, g, hb, q2⟩ => Calls.spliced_nil ?_)))
  subst ey
  obtain rfl : iv = Value.ref b := ry
  exact n_get hu I2 g hb fun w' s3 I3 rw' => ⟨_, H2, I3, rw', q2⟩
theorem pe_nix (hu : X.A.units + 2 < cLine) (ho : PE X o td) (hi : PE X i ty) (hs : NoSl i) : PE X (.Subscript o i pos) (tNIx X.prog X.w td ty) := by
  refine ⟨fun pins s σ H Q I h => ?_⟩
  refine subD_of PySem.F.slot_dict_getitem.lookup hs (thn (ho.run pins s σ H _ I h) fun u s1 ⟨x, H1, I1, rx, q1⟩ => thn (hi.run pins s1 σ H1 _ I1 q1) fun iv s2 ⟨y, H2, I2, ry, a, b, k, kvs, v, ex, ey, g, hb, hv, q2⟩ => ?_)
  subst ex ey
  obtain rfl : u = Value.ref a := rx
  obtain rfl : iv = Value.ref b := ry
  exact ⟨num_typeIs I2 g, n_getItem hu I2 g hb hv fun w' s3 I3 rw' => ⟨v, H2, I3, rw', q2⟩⟩
theorem ps_nput (hu : X.A.units + 2 < cLine) (ho : PE X o td) (hi : PE X i ty) (hv : PE X value tv) (hs : swapsWith value (some (.Subscript o i pos')) pos.line X.env = pure false) :
    PS X (.Assign [.Subscript o i pos'] value pos) (sNPut X.prog X.w td ty tv) := by
  refine ⟨fun pins s σ H D I h => ?_⟩
  refine wpAny_Assign_Subscript (thn (hv.run pins s σ H _ I h) fun r s1 ⟨v, H1, I1, rv, q1⟩ => thn (ho.run pins s1 σ H1 _ I1 q1) fun u s2 ⟨x, H2, I2, rx, q2⟩ => thn (hi.run pins s2 σ H2 _ I2 q2) fun iv s3 ⟨y, H3, I3, ry, a, b, k, kvs, ex, ey, g, hb, hn, hz, q3⟩ => ?_) hs
  subst ex ey
  obtain rfl : u = Value.ref a := rx
  obtain rfl : iv = Value.ref b := ry
  exact n_setItem hu I3 g hb hn hz rv fun s4 I4 => ⟨σ, _, I4, q3⟩
theorem pe_nnew : PE X (.Dict [] [] pos) (tNNew X.prog X.w) := ⟨fun pins s σ H Q I h =>
  wpAny_Dict_empty ⟨.ref s.heap.objs.size, _, I.laid (a := s.heap.objs.size) (o := NumO X.prog X.w s.heap.objs.size []) (t' := s.toks) (fun _ _ q => Heap.get?_push_of_some _ q) (Nat.le_refl _) (num_empty s.heap I.big), rfl, h _ (I.hok.fresh (Nat.le_refl _))⟩⟩
end
end L2.Bk
end
section
set_option Elab.async false
set_option linter.all false
set_option maxRecDepth 100000
set_option maxHeartbeats 4000000
namespace L2.Bk
open L2.My PySem PySem.Spec PyProof.Rows
/-! ### walked -/
def Itn (P : Program) (w : World) (d : Addr) (o : Obj) (kvs : List (Ent × Addr × V)) : It :=
  ⟨fun i H => H d = some (.frz o (NumO P w d kvs)) ∧ i < kvs.length, fun i H x H' => H' = H ∧ ∃ k q v, kvs[i]? = some (k, q, v) ∧ x = .ref q, fun i H => H d = some (.frz o (NumO P w d kvs)) ∧ kvs.length ≤ i⟩
section
variable {X : Cx} {pins : List (Addr × Obj)} {σ : St} {H : Hp} {s : Shared} {d : Addr} {o : Obj} {kvs : List (Ent × Addr × V)}
theorem frzN (I : Inv X pins σ H s) (h : H d = some (.frz o (NumO X.prog X.w d kvs))) :
    (d == sysModules) = false ∧ s.heap.get? d = some o ∧ o.ExactDict ∧ ∃ (es : Array DictEntry) (ep : Nat), o.data = .dict es ep ∧ es.size = kvs.length ∧
      ∀ (i : Nat) (k : Ent) (q : Addr) (v : V), kvs[i]? = some (k, q, v) → ∃ (en : DictEntry), es[i]? = some en ∧ en.key = .ref q := by
  obtain ⟨hd, ⟨⟨z, hs, nd⟩, xs, o', es, ep, pr, ho, hx, hdt, he⟩, _⟩ := I.hok d _ h
  rw [hd] at ho
  cases ho
  refine ⟨hs, hd, hx, es, ep, hdt, ?_, fun i k q v e => ?_⟩
  · have l1 : es.size = xs.length := size_of_entries he
    have l2 : kvs.length = xs.length := Paired.length pr
    omega
  · obtain ⟨b, hb, e1, e2, _⟩ := paired_get pr e
    have q' := entry_at he i
    rw [hb] at q'
    refine ⟨_, q', ?_⟩
    show Value.ref b.2.1 = _
    rw [← e2]
end
section
variable {P : Program} {w : World} {K : PySem.W.Frag} {tg : Expr} {d : Addr} {o : Obj} {es : Array DictEntry} {ep : Nat}
theorem turn_keysN {kvs : List (Ent × Addr × V)} (it : Addr) (hod : o.data = .dict es ep) : Turn P w K tg (Itn P w d o kvs) [it] it (fun i h => h.IsKeyIter it d i kvs.length ep) where
  mem := by simp
  obj := fun i h st b hb => by
    have e : b = it := by simpa using hb
    subst e
    obtain ⟨oi, e, c, dd⟩ := st
    exact ⟨oi, e, fun v z => by rw [dd] at z; cases z⟩
  keep := fun i h h' st k => st.at fun oi e => k it (by simp) oi e
  item := by
    intro X hP hw hK hc i pins s σ H E I hf st hg
    subst hP hw hK
    obtain ⟨hd, hi⟩ := hg
    obtain ⟨f0, f1, f2, f3, f4, f5⟩ := hf it (by simp)
    obtain ⟨hs, hgd, hx, es', ep', hdt, hsz, ent⟩ := frzN I hd
    obtain ⟨rfl, rfl⟩ := dict_ep hod hdt
    obtain ⟨⟨k, q, v⟩, hkv⟩ : ∃ p, kvs[i]? = some p := ⟨kvs[i], List.getElem?_eq_getElem hi⟩
    obtain ⟨en, hen, hkey⟩ := ent i k q v hkv
    refine next_key_item st hgd hdt hsz hen fun h' st' sb => ?_
    have I1 : Inv X pins σ H { s with heap := h' } := I.turned (t' := s.toks) (fun b ob hb e => (sb.2 b hb).trans e) f0 f1 f3 f4 f5
    obtain ⟨oi, e, c, dd⟩ := id st'
    exact ⟨en.key, rfl, go_of (s := { s with heap := h' }) e c dd (by decide) ⟨.ref q, H, I1, hkey, ⟨rfl, k, q, v, hkv, rfl⟩, st', fun b hb => (hf b hb).1⟩⟩
  done := by
    intro X hP hw hK hc i pins s σ H E I hf st hg
    subst hP hw hK
    obtain ⟨hd, hi⟩ := hg
    obtain ⟨f0, f1, f2, f3, f4, f5⟩ := hf it (by simp)
    obtain ⟨hs, hgd, hx, es', ep', hdt, hsz, ent⟩ := frzN I hd
    obtain ⟨rfl, rfl⟩ := dict_ep hod hdt
    exact next_key_end (I.ok.hd hc) st hgd hdt hsz hi fun h' eb => ⟨rfl, I.turned (t' := s.toks) (fun b ob hb e => eb b ob hb e) f0 f1 f3 f4 f5⟩
  self := fun A i s Q E st h => by
    refine wpAny_pyIter_slot st.typeIs F.slot_dict_keyiterator_iter (wpAny_call_entry F.slot_dict_keyiterator_iter st.typeIs F.entry_dict_keyiterator_iter ?_ (F.args_dict_keyiterator_iter_1 _))
    show wpAny _ _ (ret (.ref it)) _ _ s
    exact wpAny_pure ⟨_, rfl, "dict_keyiterator", _, st.typeIs, F.slot_dict_keyiterator_next.lookup, h⟩
end
def iKeysN (P : Program) (w : World) (td : TE) : TI := fun σ H R => td σ H fun x H1 => ∃ d o kvs, x = .ref d ∧ H1 d = some (.frz o (NumO P w d kvs)) ∧ R (Itn P w d o kvs) H1
theorem pi_keysN {X : Cx} {tg e : Expr} {td : TE} (he : PE X e td) : PI X tg e (iKeysN X.prog X.w td) := by
  refine ⟨fun pins s σ H R I h => ?_⟩
  refine thn (he.run pins s σ H _ I h) fun u s1 ⟨x, H1, I1, rx, d, o, kvs, ex, hd, q⟩ => ?_
  subst ex
  obtain rfl : u = Value.ref d := rx
  obtain ⟨hs, hgd, hx, es, ep, hdt, hsz, ent⟩ := frzN I1 hd
  refine iter_keys hs hgd hx hdt (pi_one (tk := s1.toks) I1 _ (turn_keysN _ hdt) ⟨_, Heap.get?_push_size _ rfl, rfl, ?_⟩ q)
  rw [hsz] <;> rfl
/-! ### a comprehension -/
def tDcN (P : Program) (w : World) (wi : TI) (g : TG) (tt : TT) (tk tv : TE) (vs : List Nat) : TE := fun σ H Q => wi σ H fun J H1 => ∀ D, H1 D = none → ∃ W : Nat → Nat → Hp → Prop, (∃ m, W 0 m (upd H1 D (NumO P w D []))) ∧ ∀ i m H, W i m H →
  (J.stop i H ∧ Q (.ref D) H) ∨ (J.go i H ∧ ∃ Nx : Hp → Prop, (∀ H', Nx H' → ∃ m', m' < m ∧ W (i + 1) m' H') ∧ ∀ x H', J.yld i H x H' → g x (wipe σ vs) H' fun σ2 H2 => wipe σ2 vs = wipe σ vs ∧ tt σ2 H2 fun b H3 =>
    if b = true then tk σ2 H3 fun y H4 => tv σ2 H4 fun z H5 => ∃ kvs k b, y = .ref b ∧ NumAt P w H5 D kvs ∧ EntAt H5 b k ∧ k ∉ kvs.map (·.1) ∧ kvs.length < sizeLine ∧ Nx (upd H5 D (NumO P w D (kvs ++ [(k, b, z)]))) else Nx H3)
section
variable {X : Cx}
theorem dc_coreN {pins : List (Addr × Obj)} {s : Shared} {σ : St} {H : Hp} {Q : VK} {kx vx tg iter : Expr} {ifs : List Expr} {scope : Scope} {own : List (Str × Nat)} {pos pos' : Pos} {wi : TI} {g : TG} {tt : TT} {tk tv : TE} {use : Option (Value → Sem Unit)} {Qf : Value → Shared → Prop}
    (hu : X.A.units + 2 < cLine) (hc : X.calm = true) (hN : X.N.Nodup) (I : Inv X pins σ H s) (hi : PI X tg iter wi) (ok : BlkOk X.N X.env.scope scope own)
    (hg : ∀ (s : Shared) (H : Hp) (C : Addr) (cl : List (Str × Addr)) (fp : List Addr), PG (X.blk s H scope (compEnvC scope cl C X.env) fp) tg g) (ht : ∀ (s : Shared) (H : Hp) (C : Addr) (cl : List (Str × Addr)) (fp : List Addr), PTs (X.blk s H scope (compEnvC scope cl C X.env) fp) ifs tt)
    (hk : ∀ (s : Shared) (H : Hp) (C : Addr) (cl : List (Str × Addr)) (fp : List Addr), PE (X.blk s H scope (compEnvC scope cl C X.env) fp) kx tk)
    (he : ∀ (s : Shared) (H : Hp) (C : Addr) (cl : List (Str × Addr)) (fp : List Addr), PE (X.blk s H scope (compEnvC scope cl C X.env) fp) vx tv) (hs : ∀ x, foldedSetIterable iter X.env x = pure x)
    (h : tDcN X.prog X.w wi g tt tk tv (own.map (·.2)) σ H Q)
    (hRR : ∀ D C s' m H', Inv X pins σ H' s' → Q (.ref D) H' → s'.heap.Ns C m → FpOk X pins H' C → compPost (model X.prog X.w) X.A X.xe use Qf (.ref D) C (.ok .next) s') :
    wpAny (model X.prog X.w) X.A (comprehension (.DictComp kx vx [⟨tg, iter, ifs, 0⟩] scope pos) scope X.env pos' newDict false (eval iter X.env) use) Qf X.xe s := by
  have hfree : ∀ y ∈ scope.names, y.2 = .free → ∃ c, X.env.cells.lookup y.1 = some c := fun y hy e => by
    rcases ok.free y hy e with k | k
    · exact I.ok.has _ (.inl k)
    · exact I.ok.has _ (.inr k)
  refine wpAny_comprehension_free (use := use) rfl hs (closure_ok hfree) ok.kind (fun y hy e => by rw [ok.uniq y hy, e])
    (thn (hi.run pins s σ H _ I h) fun xv s1 hx => thn hx fun itv s2 h2 => ?_)
  obtain ⟨it, fp, tn, J, H2, e, I2, T, st2, f2, q⟩ := h2
  subst e
  refine wpAny_newObj_type (newEnv_comp ?_)
  generalize hD : s2.heap.objs.size = D
  have hDn : H2 D = none := I2.hok.fresh (Nat.le_of_eq hD)
  obtain ⟨W, ⟨m0, w0⟩, turn⟩ := q D hDn
  -- the new list
  generalize hs3 : ({ s2 with heap := s2.heap.push { cls := .type "dict", data := .dict #[] } } : Shared) = s3
  have I3 : Inv X pins σ (upd H2 D (NumO X.prog X.w D [])) s3 := by
    rw [← hs3]
    refine I2.laid (t' := s2.toks) (fun b o e => Heap.get?_push_of_some _ e) (Nat.le_of_eq hD) ?_
    rw [← hD]
    exact num_empty s2.heap I2.big
  have h3 : s3.heap = s2.heap.push { cls := .type "dict", data := .dict #[] } := by rw [← hs3]
  have sz : ∀ b ∈ fp, b < s2.heap.objs.size := fun b hb => by
    obtain ⟨o, e, _⟩ := T.obj _ _ st2 b hb
    exact Heap.lt_size e
  have f3 : ∀ b ∈ fp, FpOk X pins (upd H2 D (NumO X.prog X.w D [])) b ∧ b < s3.heap.objs.size := fun b hb => by
    have hlt := sz b hb
    refine ⟨⟨?_, (f2 b hb).2⟩, by rw [h3, Heap.size_push]; exact Nat.lt_succ_of_lt hlt⟩
    rw [upd_ne (by rw [← hD]; exact Nat.ne_of_lt hlt)]
    exact (f2 b hb).1
  have st3 : tn 0 s3.heap := T.keep _ _ _ st2 fun b _ o e => by rw [h3]; exact Heap.get?_push_of_some _ e
  have I4 := block_start I3 ok hN f3
  have pg := hg s3 (upd H2 D (NumO X.prog X.w D [])) s3.heap.objs.size (cellsFrom (s3.heap.objs.size + 1) scope.names (cloFrom X.env.cells scope.names [])) fp
  have pt := ht s3 (upd H2 D (NumO X.prog X.w D [])) s3.heap.objs.size (cellsFrom (s3.heap.objs.size + 1) scope.names (cloFrom X.env.cells scope.names [])) fp
  have pk := hk s3 (upd H2 D (NumO X.prog X.w D [])) s3.heap.objs.size (cellsFrom (s3.heap.objs.size + 1) scope.names (cloFrom X.env.cells scope.names [])) fp
  have pe := he s3 (upd H2 D (NumO X.prog X.w D [])) s3.heap.objs.size (cellsFrom (s3.heap.objs.size + 1) scope.names (cloFrom X.env.cells scope.names [])) fp
  show codeAny _ _ (.compStart (.DictComp kx vx [⟨tg, iter, ifs, 0⟩] scope pos) 0 (.ref it) (.ref D) (compEnvC scope (cellsFrom (s3.heap.objs.size + 1) scope.names (cloFrom X.env.cells scope.names [])) s3.heap.objs.size X.env)) (compPost (model X.prog X.w) X.A X.xe use Qf (.ref D) s3.heap.objs.size) { s3 with heap := pushCells (s3.heap.push { cls := .type "dict", data := .dict #[] }) scope.names }
  have nfp : ∀ b ∈ fp, (upd H2 D (NumO X.prog X.w D [])) b = none := fun b hb => (f3 b hb).1.1
  generalize hce : compEnvC scope (cellsFrom (s3.heap.objs.size + 1) scope.names (cloFrom X.env.cells scope.names [])) s3.heap.objs.size X.env = ce at I4 pg pt pk pe ⊢
  have cL : ce.locals = s3.heap.objs.size := by subst hce; rfl
  generalize hH3 : upd H2 D (NumO X.prog X.w D []) = H3 at I3 I4 pg pt pk pe w0 nfp f3
  generalize hs4 : ({ s3 with heap := pushCells (s3.heap.push { cls := .type "dict", data := .dict #[] }) scope.names } : Shared) = s4 at I4 ⊢
  have st4 : tn 0 s4.heap := T.keep _ _ _ st3 fun b _ o e => by rw [← hs4]; exact pushCells_keeps _ _ _ _ (Heap.get?_push_of_some _ e)
  have stat : ∀ {σ' : St} {H' : Hp} {s' : Shared}, Inv (X.blk s3 H3 scope ce fp) [] σ' H' s' → (∀ b ∈ fp, H' b = none) → ∀ b ∈ fp, FpOk (X.blk s3 H3 scope ce fp) [] H' b := fun {σ' H' s'} I' hn b hb =>
    ⟨hn b hb, (I'.ok.exf b hb).1, I'.ok.exfs b hb, .inl hb, fun x c e => (I'.ok.exf b hb).2 x c e, fun p hp => absurd (show p ∈ ([] : List (Addr × Obj)) ++ [] from hp) (by simp)⟩
  have loop : codeAny (model X.prog X.w) X.A (.compLoop (.DictComp kx vx [⟨tg, iter, ifs, 0⟩] scope pos) 0 (.ref it) (.ref D) ce) (compPost (model X.prog X.w) X.A X.xe use Qf (.ref D) s3.heap.objs.size) s4 := by
    refine compLoop_anyD (fun n s' => ∃ i H', Inv (X.blk s3 H3 scope ce fp) [] (wipe σ (own.map (·.2))) H' s' ∧ tn i s'.heap ∧ (∀ b ∈ fp, H' b = none) ∧ W i n H') ?_ m0 ⟨0, H3, I4, st4, nfp, w0⟩
    rintro n s5 ⟨i, H5, I5, st5, n5, w5⟩
    rcases turn i n H5 w5 with ⟨stop, qq⟩ | ⟨go, Nx, hNx, step⟩
    · have td := T.done (X.blk s3 H3 scope ce fp) rfl rfl rfl hc i [] s5 _ H5 (fun _ _ => False) I5 (stat I5 n5) st5 stop
      refine thnF td fun r s6 ⟨hr, I6⟩ => ?_
      subst hr
      -- back in the def's context
      have I7 : Inv X pins σ H5 s6 := I3.call' (ch := fp) I6.os I6.base I6.hok I6.bare fun b hb => ⟨(f3 b hb).1.2.2.2.1, (f3 b hb).1.2.1, (f3 b hb).1.2.2.2.2.1, (f3 b hb).1.2.2.2.2.2⟩
      have nC : H5 s3.heap.objs.size = none := by
        have z : H5 ce.locals = none := I6.free
        rw [cL] at z
        exact z
      obtain ⟨m, hn, _⟩ := I6.loc
      have hn : s6.heap.Ns ce.locals m := hn
      rw [cL] at hn
      exact hRR D s3.heap.objs.size s6 m H5 I7 qq hn (I3.fpOk (Nat.le_refl _) nC)
    · have ti := T.item (X.blk s3 H3 scope ce fp) rfl rfl rfl hc i [] s5 _ H5 (fun _ _ => False) I5 (stat I5 n5) st5 go
      refine thnF ti fun r s6 ⟨u, hr, h6⟩ => ?_
      subst hr
      refine thnF h6 fun _ s7 ⟨x, H7, I7, r7, y7, st7, n7⟩ => ?_
      have I7' := I7.pinned (stat I7 n7) (T.obj _ _ st7)
      refine thnF (pg.run _ s7 _ H7 x u _ I7' r7 (step x H7 y7)) fun _ s8 ⟨σ8, H8, I8, hw8, q8⟩ => ?_
      refine thnF (pt.run _ s8 σ8 H8 _ I8 q8) fun b s9 ⟨H9, I9, q9⟩ => ?_
      -- the turn's end
      have fin : ∀ {s' : Shared} {H' : Hp}, Inv (X.blk s3 H3 scope ce fp) ([] ++ pinsAt fp s7.heap) σ8 H' s' → Nx H' → ∃ m, m < n ∧ ∃ i H', Inv (X.blk s3 H3 scope ce fp) [] (wipe σ (own.map (·.2))) H' s' ∧ tn i s'.heap ∧ (∀ b ∈ fp, H' b = none) ∧ W i m H' := fun {s' H'} I' nx => by
        obtain ⟨m', hm, w'⟩ := hNx H' nx
        have pin' : ∀ b ∈ fp, ∀ o, s7.heap.get? b = some o → s'.heap.get? b = some o ∧ H' b = none := fun b hb o e =>
          let z := I'.pin (b, o) (List.mem_append_right _ (List.mem_append_right _ (mem_pinsAt hb e)))
          ⟨z.1, z.2.1⟩
        have hl : (wipe σ (own.map (·.2))).length = σ8.length := by rw [← hw8, wipe_length]
        refine ⟨m', hm, i + 1, H', (I'.unpinned (pins := [])).weak hl (fun j v e => ?_), T.keep _ _ _ st7 fun b hb o e => (pin' b hb o e).1, fun b hb => ?_, w'⟩
        · rw [← hw8] at e
          exact (wipe_some e).1
        · obtain ⟨o, e, _⟩ := T.obj _ _ st7 b hb
          exact (pin' b hb o e).2
      cases b with
      | false =>
        simp only [Bool.false_eq_true, if_false] at q9 ⊢
        exact fin I9 q9
      | true =>
        simp only [if_true] at q9 ⊢
        refine thnF (pk.run _ s9 σ8 H9 _ I9 q9) fun z s10 ⟨yk, H10, I10, r10, q10⟩ => ?_
        refine thnF (pe.run _ s10 σ8 H10 _ I10 q10) fun z2 s11 ⟨yv, H11, I11, r11, kvs, k, b, ek, hD11, hb11, hn11, hz11, nx⟩ => ?_
        subst ek
        obtain rfl : z = Value.ref b := r10
        exact n_dictSet (X := X.blk s3 H3 scope ce fp) hu I11 hD11 hb11 hn11 hz11 r11 fun s12 I12 => fin I12 nx
  exact codeAny_compStart_dict loop (T.self X.A 0 _ _ _ st4 loop)
/-- as a value -/
theorem pe_dcN {kx vx tg iter : Expr} {ifs : List Expr} {scope : Scope} {own : List (Str × Nat)} {pos : Pos} {wi : TI} {g : TG} {tt : TT} {tk tv : TE} (hu : X.A.units + 2 < cLine) (hc : X.calm = true) (hN : X.N.Nodup) (hi : PI X tg iter wi) (ok : BlkOk X.N X.env.scope scope own)
    (hg : ∀ (s : Shared) (H : Hp) (C : Addr) (cl : List (Str × Addr)) (fp : List Addr), PG (X.blk s H scope (compEnvC scope cl C X.env) fp) tg g) (ht : ∀ (s : Shared) (H : Hp) (C : Addr) (cl : List (Str × Addr)) (fp : List Addr), PTs (X.blk s H scope (compEnvC scope cl C X.env) fp) ifs tt)
    (hk : ∀ (s : Shared) (H : Hp) (C : Addr) (cl : List (Str × Addr)) (fp : List Addr), PE (X.blk s H scope (compEnvC scope cl C X.env) fp) kx tk)
    (he : ∀ (s : Shared) (H : Hp) (C : Addr) (cl : List (Str × Addr)) (fp : List Addr), PE (X.blk s H scope (compEnvC scope cl C X.env) fp) vx tv) (hs : ∀ x, foldedSetIterable iter X.env x = pure x := by intro _; rfl) :
    PE X (.DictComp kx vx [⟨tg, iter, ifs, 0⟩] scope pos) (tDcN X.prog X.w wi g tt tk tv (own.map (·.2))) := by
  refine ⟨fun pins s σ H Q I h => ?_⟩
  rw [arm_eval_DictComp]
  refine dc_coreN hu hc hN I hi ok hg ht hk he hs h fun D C s' m H' I' q hn f => ⟨m, hn, fun h'' sb => ?_⟩
  obtain ⟨f0, f1, f2, f3, f4, f5⟩ := f
  exact ⟨.ref D, H', I'.turned (t' := s'.toks) (fun b o hb e => (sb.2 b hb).trans e) f0 f1 f3 f4 f5, rfl, q⟩
end
end L2.Bk
end
section
set_option Elab.async false
set_option linter.all false
set_option maxRecDepth 100000
set_option maxHeartbeats 4000000
namespace L2.Bk
open L2.My PySem PySem.Spec PyProof.Rows
def goodC (c : Nat) : Bool := decide (32 ≤ c) && decide (c ≤ 126)
def nameV : V → Bool
  | .str x => decide (x.length ≤ 40) && x.cps.toList.all goodC
  | _ => false
structure PlTxt (mg : Str → Option Value) : Prop where
  isi : mg "isinstance" = none
  int_ : mg "int" = none
  bool_ : mg "bool" = none
  str_ : mg "str" = none
  len_ : mg "len" = none
  all_ : mg "all" = none
  tuple_ : mg "tuple" = none
  list_ : mg "list" = none
  max_ : mg "max" = none
  sorted_ : mg "sorted" = none
  most : ∃ t, mg "MOST_SIGNS" = some (.int 40 t)
abbrev sBelow : Stmt := top 14
abbrev sSign : Stmt := top 15
abbrev sNameT : Stmt := top 16
def spBelow : Sp := fun vs H Q _ => ∃ n v t, vs = [.int n, v] ∧ ThT H v t ∧ Q (.bl (belowV n v)) H
def spSign : Sp := fun vs H Q _ => ∃ c : Nat, vs = [.str ⟨#[c]⟩] ∧ Q (.bl (goodC c)) H
def spNameT : Sp := fun vs H Q _ => ∃ v t, vs = [v] ∧ ThT H v t ∧ (∀ x, v = .str x → x.length ≤ 100000) ∧ ∀ H', Same H H' → Q (.bl (nameV v)) H'
section
variable {P : Program} {w : World} {K : PySem.W.Frag} {mg : Str → Option Value} {base : Heap}
theorem scBelow : FnScope ["bound", "thing"] ["bound", "thing"] (defScope sBelow) := ⟨rfl, rfl, rfl, by decide +kernel, rfl, by decide +kernel, by decide +kernel⟩
theorem ok_below {f : Addr} {fd : FuncData} {k : Nat} (F : Fun K "is_below" "is_below" sBelow f fd) (T : PlTxt mg) : FnOk P w K mg base CX0 (k + 1) f fd ["bound", "thing"] spBelow := by
  refine F.ok scBelow (fun vs H Q E h => ?_) (fun cdv A outer s H vs Q E hr h => ?_)
  · obtain ⟨n, v, t, rfl, _⟩ := h
    rfl
  · obtain ⟨n, v, t, rfl, ht, q⟩ := h
    refine ⟨_, pss_cons (ps_if (pt_or (pt_not (pt_val (pe_callB call_isTh (by rfl) T.isi (by decide +kernel) (pa_cons (pv 1) (pa_cons (pe_bltn (v := .ty "int") (u := .type "int") (by rfl) T.int_ (by decide +kernel) rfl) pa_nil)))))
        (pw_or1 (pt_val (pe_callB call_isTh (by rfl) T.isi (by decide +kernel) (pa_cons (pv 1) (pa_cons (pe_bltn (v := .ty "bool") (u := .type "bool") (by rfl) T.bool_ (by decide +kernel) rfl) pa_nil))))))
        (pss_one (ps_ret pe_bl)) pss_nil) (pss_one (ps_ret (pe_chain op_le op_lt pe_int (pv 1) (pv 0)))), ?_⟩
    refine ⟨_, rfl, v, "int", t, rfl, ht, by decide, _, rfl, ?_⟩
    cases ht with
    | int i =>
      refine iteF ⟨_, rfl, _, "bool", _, rfl, .int i, by decide, _, rfl, iteF ?_⟩
      refine ⟨_, rfl, ?_⟩
      refine ⟨_, _, rfl, rfl, _, rfl, ?_⟩
      by_cases h0 : 0 ≤ i
      · rw [decide_eq_true h0]
        refine iteT ⟨_, rfl, _, _, rfl, rfl, ?_⟩
        have e : belowV n (.int i) = decide (i < n) := by simp [belowV, h0]
        rw [e] at q
        exact q
      · rw [decide_eq_false h0]
        have e : belowV n (.int i) = false := by simp [belowV, h0]
        rw [e] at q
        exact iteF q
    | bl b => exact iteF ⟨_, rfl, _, "bool", _, rfl, .bl b, by decide, _, rfl, iteT q⟩
    | non => exact iteT (iteT q)
    | str x => exact iteT (iteT q)
    | lst h => exact iteT (iteT q)
    | tup h => exact iteT (iteT q)
    | dct h => exact iteT (iteT q)
theorem scSign : FnScope ["sign"] ["sign"] (defScope sSign) := ⟨rfl, rfl, rfl, by decide +kernel, rfl, by decide +kernel, by decide +kernel⟩
theorem lt1 (a b : Nat) : decide (([a] : List Nat) < [b]) = decide (a < b) := by
  by_cases h : a < b
  · rw [decide_eq_true h, decide_eq_true (by exact List.Lex.rel h)]
  · rw [decide_eq_false h]
    refine decide_eq_false fun z => ?_
    rcases (List.cons_lt_cons_iff.mp z) with z | z
    · exact h z
    · exact absurd z.2 (by simp)
theorem ok_sign {f : Addr} {fd : FuncData} {k : Nat} (F : Fun K "is_sign" "is_sign" sSign f fd) : FnOk P w K mg base CX0 (k + 1) f fd ["sign"] spSign := by
  refine F.ok scSign (fun vs H Q E h => ?_) (fun cdv A outer s H vs Q E hr h => ?_)
  · obtain ⟨c, rfl, _⟩ := h
    rfl
  · obtain ⟨c, rfl, q⟩ := h
    refine ⟨_, pss_one (ps_ret (pe_chain op_le_str op_le_str pe_str (pv 0) pe_str)), ?_⟩
    have e1 : (⟨#[c]⟩ : Str).cps.toList = [c] := rfl
    have e2 : ((" " : Str).cps.toList) = [32] := by decide +kernel
    have e3 : (("~" : Str).cps.toList) = [126] := by decide +kernel
    refine ⟨_, rfl, _, _, rfl, rfl, _, rfl, ?_⟩
    rw [e1, e2, lt1]
    by_cases h : c < 32
    · rw [decide_eq_true h]
      have e : goodC c = false := by simp [goodC]; omega
      rw [e] at q
      exact iteF q
    · rw [decide_eq_false h]
      refine iteT ⟨_, _, rfl, rfl, ?_⟩
      rw [e1, e3, lt1]
      have e : goodC c = !decide (126 < c) := by
        rw [show goodC c = (decide (32 ≤ c) && decide (c ≤ 126)) from rfl, decide_eq_true (show 32 ≤ c by omega), Bool.true_and]
        by_cases h2 : c ≤ 126
        · rw [decide_eq_true h2, decide_eq_false (show ¬ 126 < c by omega)]; rfl
        · rw [decide_eq_false h2, decide_eq_true (show 126 < c by omega)]; rfl
      rw [e] at q
      exact q
theorem scNameT : FnScope ["thing", "sign"] ["thing"] (defScope sNameT) := ⟨rfl, rfl, rfl, by decide +kernel, rfl, by decide +kernel, by decide +kernel⟩
theorem ok_nameT {f fS : Addr} {fd fdS : FuncData} {k : Nat} (F : Fun K "is_name_text" "is_name_text" sNameT f fd) (T : PlTxt mg) (FS : Fun K "is_sign" "is_sign" sSign fS fdS) (gS : mg "is_sign" = some (.ref fS)) (bS : Binds K fdS ["sign"] []) : FnOk P w K mg base CX0 (k + 2) f fd ["thing"] spNameT := by
  have GS : FnOk P w K mg base CX0 (k + 1) fS fdS ["sign"] spSign := ok_sign FS
  obtain ⟨tm, hm⟩ := T.most
  refine F.ok scNameT (fun vs H Q E h => ?_) (fun cdv A outer s H vs Q E hr h => ?_)
  · obtain ⟨v, t, rfl, _⟩ := h
    rfl
  · obtain ⟨v, t, rfl, ht, hx, q⟩ := h
    refine ⟨_, pss_cons (ps_if (pt_or (pt_not (pt_val (pe_callB call_isTh (by rfl) T.isi (by decide +kernel) (pa_cons (pv 0) (pa_cons (pe_bltn (v := .ty "str") (u := .type "str") (by rfl) T.str_ (by decide +kernel) rfl) pa_nil)))))
        (pw_or1 (pt_cmpR op_gt (pe_callB call_len_str (by rfl) T.len_ PySem.boot_len (pa_cons (pv 0) pa_nil)) (pe_glob (v := .int 40) (by rfl) hm ⟨tm, rfl⟩) (nomark _))))
        (pss_one (ps_ret pe_bl)) pss_nil) (pss_one (ps_ret (pe_callB (cr_all rfl) (by rfl) T.all_ (by decide +kernel) (pa_cons (pe_lc (own := [("sign", 1)]) (g := gName 1) rfl scNameT.nd (pi_str (pv 0))
          (blkOk_by (N := ["thing", "sign"]) (sc := defScope sNameT) (by decide +kernel)) (fun _ _ _ _ _ => pg_name (i := 1) scNameT.nd rfl (Or.inl rfl)) (fun _ _ _ _ _ => pts_nil)
          (fun _ _ _ _ _ => pe_call GS hr (by rfl) gS FS.kp bS .nil pass0 (pa_cons (pv 1) pa_nil))) pa_nil)))), ?_⟩
    refine ⟨_, rfl, v, "str", t, rfl, ht, by decide, _, rfl, ?_⟩
    cases ht with
    | str x =>
      refine iteF ⟨_, rfl, _, rfl, Nat.le_trans (hx x rfl) (by decide), ?_⟩
      refine ⟨_, _, rfl, rfl, _, rfl, ?_⟩
      by_cases h40 : x.length ≤ 40
      · rw [decide_eq_false (by omega)]
        refine iteF ⟨_, rfl, _, rfl, fun D hD => ?_⟩
        refine lcP walk_str (fun i => V.bl (goodC (x.cps.toList.getD i 0))) (Nat.lt_of_le_of_lt (show x.cps.size ≤ 40 from h40) (by decide)) hD (fun _ _ => trivial) ?_ ?_
        · rintro i y H1 H2 Q' hi sm ⟨rfl, c, hc, rfl⟩ hq
          refine ⟨rfl, _, rfl, c, rfl, ?_⟩
          have e : x.cps.toList.getD i 0 = c := by
            rw [List.getD_eq_getElem?_getD, Array.getElem?_toList, hc]; rfl
          rw [e] at hq
          exact hq _ (Same.refl _)
        · intro H' sm hd
          refine ⟨D, (List.range x.cps.size).map fun i => goodC (x.cps.toList.getD i 0), rfl, .inl (.inl (by rw [hd, List.map_map]; rfl)), ?_⟩
          have e : nameV (.str x) = ((List.range x.cps.size).map fun i => goodC (x.cps.toList.getD i 0)).all id := by
            show (decide (x.length ≤ 40) && x.cps.toList.all goodC) = _
            rw [decide_eq_true h40, Bool.true_and, List.all_map]
            rw [Bool.eq_iff_iff, List.all_eq_true, List.all_eq_true]
            constructor
            · intro h i hi
              have hi : i < x.cps.toList.length := by simpa using hi
              show goodC (x.cps.toList.getD i 0) = true
              rw [List.getD_eq_getElem?_getD, List.getElem?_eq_getElem hi]
              exact h _ (List.getElem_mem hi)
            · intro h c hc
              obtain ⟨i, hi, rfl⟩ := List.mem_iff_getElem.mp hc
              have := h i (by simpa using hi)
              have q : goodC (x.cps.toList.getD i 0) = true := this
              rw [List.getD_eq_getElem?_getD, List.getElem?_eq_getElem hi] at q
              exact q
          rw [← e]
          exact q _ sm
      · rw [decide_eq_true (by omega)]
        have e : nameV (.str x) = false := by simp [nameV, h40]
        rw [e] at q
        exact iteT (q _ (Same.refl H))
    | int i => exact iteT (iteT (q _ (Same.refl H)))
    | bl b => exact iteT (iteT (q _ (Same.refl H)))
    | non => exact iteT (iteT (q _ (Same.refl H)))
    | lst h => exact iteT (iteT (q _ (Same.refl H)))
    | tup h => exact iteT (iteT (q _ (Same.refl H)))
    | dct h => exact iteT (iteT (q _ (Same.refl H)))
end
end L2.Bk
end
section
set_option Elab.async false
set_option linter.all false
set_option maxRecDepth 100000
set_option maxHeartbeats 4000000
namespace L2.Bk
open L2.My PySem PySem.Spec PyProof.Rows
/-! ### entries -/
def leafK (k : Str) : Bool := decide (k ∈ (["name", "number", "fresh"] : List Str))
def intK : Key → Option Int
  | .inl i => some i
  | .inr _ => none
def inner (e : Ent) : List Int := if leafK e.1 = true then [] else e.2.filterMap intK
def cntF (es : List Ent) : Nat := es.countP fun e => decide (e.1 = ("fresh" : Str))
def sizesK : List (Str × Nat) := [("made", 2), ("lock", 1), ("box", 2), ("chest", 2), ("mark", 2), ("print", 1)]
/-- an entry may stand behind n others -/
inductive Ok1 (n : Nat) : Ent → Prop where
  | name (x : Str) (h : nameV (.str x) = true) : Ok1 n ("name", [.inr x])
  | num (i : Int) (h0 : 0 ≤ i) (h1 : i < 10 ^ 12) : Ok1 n ("number", [.inl i])
  | fresh (i : Int) (h0 : 0 ≤ i) : Ok1 n ("fresh", [.inl i])
  | row (is : List Int) (hl : is.length ≤ 400) (h : ∀ i ∈ is, 0 ≤ i ∧ i < n) : Ok1 n ("row", is.map .inl)
  | parts (k : Str) (is : List Int) (hk : (k, is.length) ∈ sizesK) (h : ∀ i ∈ is, 0 ≤ i ∧ i < n) : Ok1 n (k, is.map .inl)
structure WF (n : Int) (es : List Ent) : Prop where
  ok : ∀ (i : Nat) (e : Ent), es[i]? = some e → Ok1 i e
  nd : es.Nodup
  fr : ∀ i, (("fresh", [.inl i]) : Ent) ∈ es → 0 ≤ i ∧ i < n
theorem fm_inl (is : List Int) : (is.map (Sum.inl (β := Str))).filterMap intK = is := by
  induction is with
  | nil => rfl
  | cons i r ih => rw [List.map_cons, List.filterMap_cons]; simp [intK, ih]
theorem leaf_sizes : ∀ p ∈ sizesK, leafK p.1 = false := by decide +kernel
theorem inner_row (is : List Int) : inner ("row", is.map .inl) = is := by
  unfold inner
  rw [if_neg (show ¬ leafK "row" = true by decide +kernel)]
  exact fm_inl is
theorem inner_parts {k : Str} {is : List Int} (hk : (k, is.length) ∈ sizesK) : inner (k, is.map .inl) = is := by
  unfold inner
  rw [leaf_sizes _ hk, if_neg (by decide)]
  exact fm_inl is
theorem Ok1.inner_lt {n : Nat} {e : Ent} (h : Ok1 n e) : ∀ i ∈ inner e, 0 ≤ i ∧ i < n := by
  cases h with
  | name x h => intro i hi; exact nomatch (show i ∈ ([] : List Int) from hi)
  | num j h0 h1 => intro i hi; exact nomatch (show i ∈ ([] : List Int) from hi)
  | fresh j h0 => intro i hi; exact nomatch (show i ∈ ([] : List Int) from hi)
  | row is hl h => rw [inner_row]; exact h
  | parts k is hk h => rw [inner_parts hk]; exact h
/-- the parts of what is no leaf are its inner terms -/
theorem Ok1.parts_eq {n : Nat} {e : Ent} (h : Ok1 n e) (hl : leafK e.1 = false) : e.2.map kV = (inner e).map .int := by
  cases h with
  | name x h => exact absurd hl (show ¬ leafK "name" = false by decide +kernel)
  | num j h0 h1 => exact absurd hl (show ¬ leafK "number" = false by decide +kernel)
  | fresh j h0 => exact absurd hl (show ¬ leafK "fresh" = false by decide +kernel)
  | row is _ h => rw [inner_row, List.map_map]; rfl
  | parts k is hk h => rw [inner_parts hk, List.map_map]; rfl
theorem Ok1.short {n : Nat} {e : Ent} (h : Ok1 n e) : e.2.length ≤ 400 := by
  cases h with
  | name x h => show 1 ≤ 400; decide
  | num j h0 h1 => show 1 ≤ 400; decide
  | fresh j h0 => show 1 ≤ 400; decide
  | row is hl h => rw [List.length_map]; exact hl
  | parts k is hk h =>
    rw [List.length_map]
    have : ∀ p ∈ sizesK, p.2 ≤ 400 := by decide +kernel
    exact this _ hk
/-- the greatest, 0 at least -/
def IsMax0 (ns : List Int) (m : Int) : Prop := (m = 0 ∨ m ∈ ns) ∧ 0 ≤ m ∧ ∀ y ∈ ns, y ≤ m
theorem IsMax0.unique {ns : List Int} {m m' : Int} (h : IsMax0 ns m) (h' : IsMax0 ns m') : m = m' := by
  obtain ⟨a, b, c⟩ := h
  obtain ⟨a', b', c'⟩ := h'
  rcases a with rfl | a <;> rcases a' with rfl | a'
  · rfl
  · have := c _ a'; omega
  · have := c' _ a; omega
  · have := c' _ a; have := c _ a'; omega
def DepOk (es : List Ent) (ds : List Int) : Prop := ds.length = es.length ∧ ∀ (i : Nat) (e : Ent), es[i]? = some e → ∃ m : Int, IsMax0 ((inner e).map fun p => ds.getD p.toNat 0) m ∧ ds[i]? = some (1 + m)
/-! ### the book -/
structure BP where
  b : Addr
  dx : Addr
  lk : Addr
  lp : Addr
  ld : Addr
  dn : Addr
def BP.foot (B : BP) : List Addr := [B.b, B.lk, B.lp, B.ld, B.dn]
def fieldsB (B : BP) (n : Int) : List (Str × V) := [("_kinds", .ref B.lk), ("_parts", .ref B.lp), ("_depths", .ref B.ld), ("_numbers", .ref B.dn), ("_fresh_count", .int n)]
def NumsOk (kvs : List (Ent × Addr × V)) (es : List Ent) : Prop := kvs.length = es.length ∧ ∀ (i : Nat) (e : Ent), es[i]? = some e → ∃ q : Addr, kvs[i]? = some (e, q, V.int (i : Nat))
structure BookN (P : Program) (w : World) (H : Hp) (C : Addr) (B : BP) (n : Int) (es : List Ent) : Prop where
  ins : H B.b = some (.ins C B.dx (fieldsB B n))
  kinds : H B.lk = some (.lst (es.map fun e => .str e.1))
  parts : ∃ ps : List Addr, H B.lp = some (.lst (ps.map .ref)) ∧ Paired (fun (p : Addr) (e : Ent) => H p = some (.tup (e.2.map kV))) ps es
  deps : ∃ ds : List Int, H B.ld = some (.lst (ds.map .int)) ∧ DepOk es ds
  nums : ∃ kvs, NumAt P w H B.dn kvs ∧ NumsOk kvs es
  ne : B.lk ≠ B.lp ∧ B.lk ≠ B.ld ∧ B.lp ≠ B.ld
  wf : WF n es
  len : es.length ≤ 30000
abbrev BookAt (P : Program) (w : World) (H : Hp) (C : Addr) (B : BP) (es : List Ent) : Prop := BookN P w H C B (cntF es : Nat) es
structure BkC (K : PySem.W.Frag) (C : Addr) : Prop where
  cls : Cls K C
  na : ∀ f ∈ (["_kinds", "_parts", "_depths", "_numbers", "_fresh_count"] : List Str), NoAttr K C f
/-- frames: all but some addresses stays -/
def BL (L : List Addr) (H H' : Hp) : Prop := ∀ p o, p ∉ L → H p = some o → H' p = some o
theorem BL.refl {L : List Addr} {H : Hp} : BL L H H := fun _ _ _ h => h
theorem BL.trans {L : List Addr} {H H1 H2 : Hp} (x : BL L H H1) (y : BL L H1 H2) : BL L H H2 := fun p o h e => y p o h (x p o h e)
theorem BL.same {L : List Addr} {H H' : Hp} (s : Same H H') : BL L H H' := fun p o _ e => s _ _ e
theorem BL.upd {L : List Addr} {H : Hp} {p : Addr} {o : HO} (h : p ∈ L) : BL L H (upd H p o) := fun q u hq e => by
  rw [upd_ne (fun z => hq (by rw [z]; exact h))]; exact e
theorem EntAt.keep {H H' : Hp} {a : Addr} {e : Ent} (h : EntAt H a e) (s : ∀ b xs, H b = some (.tup xs) → H' b = some (.tup xs)) : EntAt H' a e := by
  obtain ⟨p, h1, h2⟩ := h
  exact ⟨p, s _ _ h1, s _ _ h2⟩
section
variable {P : Program} {w : World} {H H' : Hp} {C : Addr} {B : BP} {n : Int} {es : List Ent}
/-- a book stands where its own parts and all tuples stand -/
theorem BookN.keep (h : BookN P w H C B n es) (sf : ∀ p ∈ B.foot, H' p = H p) (st : ∀ b xs, H b = some (.tup xs) → H' b = some (.tup xs)) : BookN P w H' C B n es := by
  obtain ⟨a1, a2, ⟨ps, a3, a3'⟩, ⟨ds, a4, a4'⟩, ⟨kvs, ⟨a5, a6⟩, a5'⟩, a7, a8, a9⟩ := h
  refine ⟨?_, ?_, ⟨ps, ?_, Paired.mapP a3' fun _ _ z => st _ _ z⟩, ⟨ds, ?_, a4'⟩, ⟨kvs, ⟨?_, fun x hx => (a6 x hx).keep st⟩, a5'⟩, a7, a8, a9⟩
  · rw [sf _ (by simp [BP.foot])]; exact a1
  · rw [sf _ (by simp [BP.foot])]; exact a2
  · rw [sf _ (by simp [BP.foot])]; exact a3
  · rw [sf _ (by simp [BP.foot])]; exact a4
  · rw [sf _ (by simp [BP.foot])]; exact a5
theorem BookN.there (h : BookN P w H C B n es) : ∀ p ∈ B.foot, ∃ o, H p = some o := by
  obtain ⟨a1, a2, ⟨ps, a3, a3'⟩, ⟨ds, a4, a4'⟩, ⟨kvs, ⟨a5, a6⟩, a5'⟩, a7, a8, a9⟩ := h
  intro p hp
  simp only [BP.foot, List.mem_cons, List.not_mem_nil, or_false] at hp
  rcases hp with rfl | rfl | rfl | rfl | rfl
  · exact ⟨_, a1⟩
  · exact ⟨_, a2⟩
  · exact ⟨_, a3⟩
  · exact ⟨_, a4⟩
  · exact ⟨_, a5⟩
theorem BookN.notup (h : BookN P w H C B n es) : ∀ p ∈ B.foot, ∀ xs, H p ≠ some (.tup xs) := by
  obtain ⟨a1, a2, ⟨ps, a3, a3'⟩, ⟨ds, a4, a4'⟩, ⟨kvs, ⟨a5, a6⟩, a5'⟩, a7, a8, a9⟩ := h
  intro p hp xs e
  simp only [BP.foot, List.mem_cons, List.not_mem_nil, or_false] at hp
  rcases hp with rfl | rfl | rfl | rfl | rfl
  · rw [a1] at e; cases e
  · rw [a2] at e; cases e
  · rw [a3] at e; cases e
  · rw [a4] at e; cases e
  · rw [a5] at e; cases e
/-- behind a change of L the book, apart from L, stands -/
theorem BookN.bl {L : List Addr} (h : BookN P w H C B n es) (s : BL L H H') (hd : ∀ p ∈ B.foot, p ∉ L) (hL : ∀ p ∈ L, ∀ xs, H p ≠ some (.tup xs)) : BookN P w H' C B n es :=
  h.keep (fun p hp => by
    obtain ⟨o, ho⟩ := h.there p hp
    rw [ho, s p o (hd p hp) ho]) fun b xs e => s b _ (fun hb => hL b hb xs e) e
theorem BookN.same (h : BookN P w H C B n es) (s : Same H H') : BookN P w H' C B n es :=
  h.bl (L := []) (.same s) (fun _ _ z => nomatch z) fun _ z => nomatch z
end
/-- the lists of kinds and parts -/
structure BkKP (H : Hp) (C : Addr) (B : BP) (n : Int) (es : List Ent) : Prop where
  ins : H B.b = some (.ins C B.dx (fieldsB B n))
  kinds : H B.lk = some (.lst (es.map fun e => .str e.1))
  parts : ∃ ps : List Addr, H B.lp = some (.lst (ps.map .ref)) ∧ Paired (fun (p : Addr) (e : Ent) => H p = some (.tup (e.2.map kV))) ps es
section
variable {P : Program} {w : World} {H H' : Hp} {C : Addr} {B : BP} {n : Int} {es : List Ent}
theorem BookN.kp (h : BookN P w H C B n es) : BkKP H C B n es := ⟨h.ins, h.kinds, h.parts⟩
/-- the i-th entry's parts -/
theorem BkKP.part (h : BkKP H C B n es) {i : Nat} {e : Ent} (he : es[i]? = some e) : ∃ (ps : List Addr) (p : Addr), H B.lp = some (.lst (ps.map .ref)) ∧ ps[i]? = some p ∧ H p = some (.tup (e.2.map kV)) := by
  obtain ⟨ps, a3, a3'⟩ := h.parts
  have hl := Paired.length a3'
  obtain ⟨hi, _⟩ := List.getElem?_eq_some_iff.mp he
  have hp : ps[i]? = some ps[i] := List.getElem?_eq_getElem (by omega)
  obtain ⟨e', he', q⟩ := paired_get a3' hp
  rw [he] at he'
  cases he'
  exact ⟨ps, ps[i], a3, hp, q⟩
theorem BookN.part (h : BookN P w H C B n es) {i : Nat} {e : Ent} (he : es[i]? = some e) : ∃ (ps : List Addr) (p : Addr), H B.lp = some (.lst (ps.map .ref)) ∧ ps[i]? = some p ∧ H p = some (.tup (e.2.map kV)) := h.kp.part he
theorem IsMax0.congr {ns ms : List Int} {m : Int} (e : ns = ms) (h : IsMax0 ns m) : IsMax0 ms m := e ▸ h
theorem getD_app {ds : List Int} {x : Int} {i : Nat} (h : i < ds.length) : (ds ++ [x]).getD i 0 = ds.getD i 0 := by
  rw [List.getD_eq_getElem?_getD, List.getD_eq_getElem?_getD, List.getElem?_append_left h]
theorem DepOk.snoc {ds : List Int} {e : Ent} {m : Int} (h : DepOk es ds) (wf : ∀ (i : Nat) (e : Ent), es[i]? = some e → Ok1 i e) (ok : Ok1 es.length e) (hm : IsMax0 ((inner e).map fun p => ds.getD p.toNat 0) m) : DepOk (es ++ [e]) (ds ++ [1 + m]) := by
  obtain ⟨hl, h⟩ := h
  refine ⟨by rw [List.length_append, List.length_append, hl]; rfl, fun i e' he' => ?_⟩
  by_cases hi : i < es.length
  · rw [List.getElem?_append_left hi] at he'
    obtain ⟨m', hm', hd⟩ := h i e' he'
    refine ⟨m', hm'.congr (List.map_congr_left fun p hp => ?_), by rw [List.getElem?_append_left (by omega)]; exact hd⟩
    have := (wf i e' he').inner_lt p hp
    exact (getD_app (by omega)).symm
  · have hi2 : i = es.length := by
      have := (List.getElem?_eq_some_iff.mp he').1
      rw [List.length_append] at this
      simp only [List.length_singleton] at this
      omega
    subst hi2
    rw [List.getElem?_append_right (Nat.le_refl _), Nat.sub_self] at he'
    cases (show some e = some e' from he')
    refine ⟨m, hm.congr (List.map_congr_left fun p hp => ?_), by rw [List.getElem?_append_right (by omega), hl, Nat.sub_self]; rfl⟩
    have := ok.inner_lt p hp
    exact (getD_app (by omega)).symm
theorem DepOk.pos {ds : List Int} (h : DepOk es ds) : ∀ y ∈ ds, 0 ≤ y := by
  intro y hy
  obtain ⟨i, hi⟩ := List.mem_iff_getElem?.mp hy
  have hlt : i < es.length := by rw [← h.1]; exact (List.getElem?_eq_some_iff.mp hi).1
  obtain ⟨m, hm, hd⟩ := h.2 i _ (List.getElem?_eq_getElem hlt)
  rw [hi] at hd
  cases hd
  have := hm.2.1
  omega
end
end L2.Bk
end
section
set_option Elab.async false
set_option linter.all false
set_option maxRecDepth 100000
set_option maxHeartbeats 4000000
namespace L2.Bk
open L2.My PySem PySem.Spec PyProof.Rows
abbrev mth (i : Nat) : Stmt := inClass (top 17) i
abbrev qB (m : String) : Str := Str.ofString ("Book." ++ m)
/-- the facts of the errors that the book raises -/
structure NoTxt (P : Program) (w : World) (K : PySem.W.Frag) (mg : Str → Option Value) (base : Heap) (C0 C1 C2 C3 : Addr) : Prop where
  g0 : mg "NoKind" = some (.ref C0)
  g1 : mg "NoParts" = some (.ref C1)
  g2 : mg "NoTerm" = some (.ref C2)
  i0 : Ini0 P w K mg base C0
  i1 : Ini0 P w K mg base C1
  i2 : Ini0 P w K mg base C2
def numE (es : List Ent) (e : Ent) : Option Nat := if (es.any fun x => decide (x = e)) = true then some (es.findIdx fun x => decide (x = e)) else none
theorem numE_some {es : List Ent} (nd : es.Nodup) {i : Nat} {e : Ent} (h : es[i]? = some e) : numE es e = some i := by
  obtain ⟨hi, he⟩ := List.getElem?_eq_some_iff.mp h
  have ha : (es.any fun x => decide (x = e)) = true := List.any_eq_true.mpr ⟨e, List.mem_of_getElem? h, decide_eq_true rfl⟩
  unfold numE
  rw [if_pos ha]
  have hlt : es.findIdx (fun x => decide (x = e)) < es.length := List.findIdx_lt_length_of_exists ⟨e, List.mem_of_getElem? h, decide_eq_true rfl⟩
  have hg := List.findIdx_getElem (p := fun x => decide (x = e)) (xs := es) (w := hlt)
  have e1 : es[es.findIdx (fun x => decide (x = e))] = es[i] := by
    rw [he]; exact of_decide_eq_true hg
  exact congrArg some ((List.getElem_inj nd).mp e1)
theorem numE_none {es : List Ent} {e : Ent} (h : e ∉ es) : numE es e = none := by
  unfold numE
  rw [if_neg]
  intro ha
  obtain ⟨x, hx, hxe⟩ := List.any_eq_true.mp ha
  rw [of_decide_eq_true hxe] at hx
  exact h hx
theorem numE_get {es : List Ent} {e : Ent} {i : Nat} (h : numE es e = some i) : es[i]? = some e := by
  unfold numE at h
  by_cases ha : (es.any fun x => decide (x = e)) = true
  · rw [if_pos ha] at h
    cases h
    obtain ⟨x, hx, hxe⟩ := List.any_eq_true.mp ha
    have hlt : es.findIdx (fun x => decide (x = e)) < es.length := List.findIdx_lt_length_of_exists ⟨x, hx, hxe⟩
    rw [List.getElem?_eq_getElem hlt]
    exact congrArg some (of_decide_eq_true (List.findIdx_getElem (p := fun x => decide (x = e)) (xs := es) (w := hlt)))
  · rw [if_neg ha] at h
    cases h
theorem numE_not {es : List Ent} {e : Ent} (h : numE es e = none) : e ∉ es := by
  intro hm
  unfold numE at h
  rw [if_pos (List.any_eq_true.mpr ⟨e, hm, decide_eq_true rfl⟩)] at h
  cases h
def numV : Option Nat → V
  | some i => .int (i : Nat)
  | none => .non
/-- what the dict of a book tells -/
theorem nums_val {kvs : List (Ent × Addr × V)} {es : List Ent} (h : NumsOk kvs es) (nd : es.Nodup) (e : Ent) : (valN kvs e).getD .non = numV (numE es e) := by
  obtain ⟨hl, h⟩ := h
  cases q : numE es e with
  | some i =>
    obtain ⟨a, ha⟩ := h i e (numE_get q)
    have : valN kvs e = some (.int (i : Nat)) := by
      unfold valN
      have key : ∀ x ∈ kvs, x.1 = e → x.2.2 = .int (i : Nat) := by
        intro x hx hxe
        obtain ⟨j, hj⟩ := List.mem_iff_getElem?.mp hx
        have hjl : j < es.length := by rw [← hl]; exact (List.getElem?_eq_some_iff.mp hj).1
        obtain ⟨a', ha'⟩ := h j _ (List.getElem?_eq_getElem hjl)
        rw [hj] at ha'
        cases ha'
        have q2 : numE es e = some j := numE_some nd (by rw [List.getElem?_eq_getElem hjl]; exact congrArg some hxe)
        rw [q] at q2
        cases q2
        rfl
      cases f : kvs.find? fun x => decide (x.1 = e) with
      | none =>
        rw [List.find?_eq_none] at f
        exact absurd (decide_eq_true rfl) (f _ (List.mem_of_getElem? ha))
      | some x =>
        have h1 := List.find?_some f
        have h2 := List.mem_of_find?_eq_some f
        rw [Option.map_some, key x h2 (of_decide_eq_true h1)]
    rw [this]; rfl
  | none =>
    have : valN kvs e = none := by
      apply valN_none
      intro hm
      obtain ⟨x, hx, hxe⟩ := List.mem_map.mp hm
      obtain ⟨j, hj⟩ := List.mem_iff_getElem?.mp hx
      have hjl : j < es.length := by rw [← hl]; exact (List.getElem?_eq_some_iff.mp hj).1
      obtain ⟨a', ha'⟩ := h j _ (List.getElem?_eq_getElem hjl)
      rw [hj] at ha'
      cases ha'
      exact numE_not q (hxe ▸ List.getElem_mem hjl)
    rw [this]; rfl
def spSize (C : Addr) : Sp := fun vs H Q _ => ∃ B n es, vs = [.ref B.b] ∧ BkKP H C B n es ∧ Q (.int (es.length : Nat)) H
def spInner (C : Addr) : Sp := fun vs H Q _ => ∃ B n es e, ∃ i : Nat, vs = [.ref B.b, .int (i : Nat)] ∧ BkKP H C B n es ∧ es[i]? = some e ∧ (∃ m, Ok1 m e) ∧ ∀ H' q, Same H H' → H' q = some (.tup ((inner e).map .int)) → Q (.ref q) H'
def spCheck (P : Program) (w : World) (C C2 : Addr) : Sp := fun vs H Q E => ∃ B n es v t, vs = [.ref B.b, v] ∧ BookN P w H C B n es ∧ ThT H v t ∧ (belowV (es.length : Nat) v = true → Q .non H) ∧ (belowV (es.length : Nat) v = false → E (.ref C2) none H)
/-- kind, parts, depth: R the answer -/
def spTell (P : Program) (w : World) (C C2 : Addr) (R : Hp → BP → List Ent → Nat → V → Prop) : Sp := fun vs H Q E => ∃ B n es v t, vs = [.ref B.b, v] ∧ BookN P w H C B n es ∧ ThT H v t ∧
  (∀ i : Nat, v = .int (i : Nat) → i < es.length → ∀ x, R H B es i x → Q x H) ∧ (belowV (es.length : Nat) v = false → E (.ref C2) none H)
def rKind : Hp → BP → List Ent → Nat → V → Prop := fun _ _ es i x => ∃ e, es[i]? = some e ∧ x = .str e.1
def rParts : Hp → BP → List Ent → Nat → V → Prop := fun H _ es i x => ∃ e p, es[i]? = some e ∧ x = .ref p ∧ H p = some (.tup (e.2.map kV))
def rDepth : Hp → BP → List Ent → Nat → V → Prop := fun H B es i x => ∃ (ds : List Int) (d : Int), H B.ld = some (.lst (ds.map .int)) ∧ DepOk es ds ∧ ds[i]? = some d ∧ x = .int d
theorem below_int {n : Nat} {v : V} (h : belowV (n : Nat) v = true) : ∃ i : Nat, v = .int (i : Nat) ∧ i < n := by
  cases v with
  | int i =>
    have q : 0 ≤ i ∧ i < (n : Int) := of_decide_eq_true h
    exact ⟨i.toNat, by rw [Int.toNat_of_nonneg q.1], by omega⟩
  | _ => exact nomatch h
def spAreT (P : Program) (w : World) (K : PySem.W.Frag) (C : Addr) : Sp := fun vs H Q _ => ∃ B n es a xs, vs = [.ref B.b, .ref a] ∧ BookN P w H C B n es ∧ (SqL K H a xs ∨ SqT K H a xs) ∧ xs.length ≤ 100000 ∧ (∀ x ∈ xs, ∃ t, ThT H x t) ∧ ∀ H', Same H H' → Q (.bl (xs.all (belowV (es.length : Nat)))) H'
def spNumOf (P : Program) (w : World) (C : Addr) : Sp := fun vs H Q _ => ∃ B n es k p, ∃ ks : List Key, vs = [.ref B.b, .str k, .ref p] ∧ BookN P w H C B n es ∧ H p = some (.tup (ks.map kV)) ∧
  ∀ H', Same H H' → Q (numV (numE es (k, ks))) H'
section
variable {P : Program} {w : World} {K : PySem.W.Frag} {mg : Str → Option Value} {base : Heap} {C C0 C1 C2 C3 : Addr}
theorem scSize : FnScope ["self"] ["self"] (defScope (mth 4)) := ⟨rfl, rfl, rfl, by decide +kernel, rfl, by decide +kernel, by decide +kernel⟩
theorem ok_size {f : Addr} {fd : FuncData} {k : Nat} (F : Fun K "size" "Book.size" (mth 4) f fd) (T : PlTxt mg) (c : BkC K C) : FnOk P w K mg base CX0 (k + 1) f fd ["self"] (spSize C) := by
  refine F.ok scSize (fun vs H Q E h => ?_) (fun cdv A outer s H vs Q E hr h => ?_)
  · obtain ⟨B, n, es, rfl, _⟩ := h
    rfl
  · obtain ⟨B, n, es, rfl, hB, q⟩ := h
    refine ⟨_, pss_one (ps_ret (pe_callB call_len_seq (by rfl) T.len_ PySem.boot_len (pa_cons (pe_fld (pv 0) rfl) pa_nil))), ?_⟩
    refine ⟨_, rfl, _, _, _, _, _, rfl, hB.ins, c.cls, c.na _ (by simp), rfl, ?_⟩
    refine ⟨_, _, rfl, .inl (.of hB.kinds), ?_⟩
    rw [List.length_map]
    exact q
theorem scNumOf : FnScope ["self", "kind", "parts"] ["self", "kind", "parts"] (defScope (mth 6)) := ⟨rfl, rfl, rfl, by decide +kernel, rfl, by decide +kernel, by decide +kernel⟩
theorem u2 {k : Nat} {A : Around} (h : Room k A) : A.units + 2 < cLine := by have := h.un; omega
theorem u65 {k : Nat} {A : Around} (h : Room k A) : A.units + 65 < cLine := by have := h.un; omega
theorem ok_numOf {f : Addr} {fd : FuncData} {k : Nat} (F : Fun K "number_of" "Book.number_of" (mth 6) f fd) (c : BkC K C) : FnOk P w K mg base CX0 (k + 1) f fd ["self", "kind", "parts"] (spNumOf P w C) := by
  refine F.ok scNumOf (fun vs H Q E h => ?_) (fun cdv A outer s H vs Q E hr h => ?_)
  · obtain ⟨B, n, es, kd, p, ks, rfl, _⟩ := h
    rfl
  · obtain ⟨B, n, es, kd, p, ks, rfl, hB, hp, q⟩ := h
    refine ⟨_, pss_one (ps_ret (pe_nget (u2 hr) (pe_fld (pv 0) rfl) (pe_tup (pa_cons (pv 1) (pa_cons (pv 2) pa_nil))) ⟨rfl, rfl, rfl, rfl⟩)), ?_⟩
    obtain ⟨kvs, hn, hk⟩ := hB.nums
    refine ⟨_, rfl, _, _, _, _, _, rfl, hB.ins, c.cls, c.na _ (by simp), rfl, ?_⟩
    refine ⟨_, kvs, rfl, hn.rd, _, rfl, _, rfl, by show 2 ≤ sizeLine; decide, fun t nt => ?_⟩
    have s1 : Same H (upd H t (.tup [.str kd, .ref p])) := same_upd nt
    refine ⟨t, (kd, ks), kvs, rfl, ⟨.inl (s1 _ _ hn.1), fun x hx => (hn.2 x hx).keep fun b xs e => s1 _ _ e⟩, ⟨p, upd_same, s1 _ _ hp⟩, ?_⟩
    rw [nums_val hk hB.wf.nd]
    exact q _ s1
theorem scCheck : FnScope ["self", "term"] ["self", "term"] (defScope (mth 12)) := ⟨rfl, rfl, rfl, by decide +kernel, rfl, by decide +kernel, by decide +kernel⟩
theorem pmk_0 {X : Cx} {C : Addr} {x : Str} {p pos : Pos} (T : Ini0 X.prog X.w X.K X.mg X.base C) (hx : X.ex = []) (hr : Room 2 X.A) (hg : Gl X x) (hm : X.mg x = some (.ref C)) (hdb : (x == ("__debug__" : Str)) = false := by decide) :
    PMk X (.Call (.Name x p) [] [] pos) (fun σ H Q => (∀ a, H a = none → X.H_0 a = none) ∧ Q (.ref C) none H) := pmk_no T hx hr hg hm hdb
theorem ok_check {f fB fS : Addr} {fd fdB fdS : FuncData} {k : Nat} (F : Fun K "_check" "Book._check" (mth 12) f fd) (T : PlTxt mg) (c : BkC K C) (N : NoTxt P w K mg base C0 C1 C2 C3) (FB : Fun K "is_below" "is_below" sBelow fB fdB) (gB : mg "is_below" = some (.ref fB)) (bB : Binds K fdB ["bound", "thing"] [])
    (FS : Fun K "size" "Book.size" (mth 4) fS fdS) (mS : Meth K C "size" fS) (bS : Binds K fdS ["self"] []) : FnOk P w K mg base (CX P w) (k + 3) f fd ["self", "term"] (spCheck P w C C2) := by
  have GB : FnOk P w K mg base CX0 (k + 1) fB fdB ["bound", "thing"] spBelow := ok_below FB T
  have GS : FnOk P w K mg base CX0 (k + 1) fS fdS ["self"] (spSize C) := ok_size FS T c
  refine F.okX scCheck (fun vs H Q E h => ?_) (fun cdv A outer s H vs Q E hr h => ?_)
  · obtain ⟨B, n, es, v, t, rfl, _⟩ := h
    rfl
  · obtain ⟨B, n, es, v, t, rfl, hB, ht, q, qe⟩ := h
    have tk := takes_of (X := cxOf (CX P w) P w K mg base ["self", "term"] "Book._check" (defScope (mth 12)) f cdv A outer s H E) (E := E) rfl rfl rfl rfl
    refine ⟨_, pss_one (ps_if (pt_not (pt_val (pe_call GB (hr.mono (by omega)) (by rfl) gB FB.kp bB .nil pass0 (pa_cons (pe_meth0 (pv 0) c.cls mS GS (hr.mono (by omega)) bS .nil pass0) (pa_cons (pv 1) pa_nil)))))
        (pss_one (ps_raise rfl tk (pmk_0 N.i2 rfl (hr.mono (by omega)) (by rfl) N.g2))) pss_nil), ?_⟩
    refine ⟨_, rfl, B.b, B.dx, _, rfl, hB.ins, rfl, B, n, es, rfl, hB.kp, _, rfl, ?_⟩
    refine ⟨_, v, t, rfl, ht, _, rfl, ?_⟩
    cases hb : belowV (es.length : Nat) v with
    | true => exact iteF (q hb)
    | false => exact iteT ⟨fun _ h => h, qe hb⟩
/-- the check of a method's argument, passed on -/
structure ChkC (P : Program) (w : World) (K : PySem.W.Frag) (mg : Str → Option Value) (base : Heap) (C C2 : Addr) (k : Nat) where
  f : Addr
  fd : FuncData
  F : FnOk P w K mg base (CX P w) k f fd ["self", "term"] (spCheck P w C C2)
  m : Meth K C "_check" f
  b : Binds K fd ["self", "term"] []
def ExX {P : Program} {w : World} {K : PySem.W.Frag} {mg : Str → Option Value} {base : Heap} (E : XK) : XK := E
theorem scKind : FnScope ["self", "term"] ["self", "term"] (defScope (mth 7)) := ⟨rfl, rfl, rfl, by decide +kernel, rfl, by decide +kernel, by decide +kernel⟩
theorem ok_kind {f : Addr} {fd : FuncData} {k : Nat} (F : Fun K "kind" "Book.kind" (mth 7) f fd) (c : BkC K C) (G : ChkC P w K mg base C C2 k) : FnOk P w K mg base (CX P w) (k + 1) f fd ["self", "term"] (spTell P w C C2 rKind) := by
  refine F.okX scKind (fun vs H Q E h => ?_) (fun cdv A outer s H vs Q E hr h => ?_)
  · obtain ⟨B, n, es, v, t, rfl, _⟩ := h
    rfl
  · obtain ⟨B, n, es, v, t, rfl, hB, ht, q, qe⟩ := h
    have tk := takes_of (X := cxOf (CX P w) P w K mg base ["self", "term"] "Book.kind" (defScope (mth 7)) f cdv A outer s H E) (E := E) rfl rfl rfl rfl
    refine ⟨_, pss_cons (ps_expr (pe_meth (pv 0) c.cls G.m G.F hr G.b .nil (passes_call tk (E := E) fun _ _ _ _ h => h) (pa_cons (pv 1) pa_nil))) (pss_one (ps_ret (pe_ix ix_list (pe_fld (pv 0) rfl) (pv 1) (fun _ _ => rfl)))), ?_⟩
    refine ⟨_, rfl, B.b, B.dx, _, rfl, hB.ins, rfl, _, rfl, ?_⟩
    refine ⟨B, n, es, v, t, rfl, hB, ht, fun hb => ?_, qe⟩
    obtain ⟨i, rfl, hi⟩ := below_int hb
    refine ⟨_, rfl, _, _, _, _, _, rfl, hB.ins, c.cls, c.na _ (by simp), rfl, _, rfl, ?_⟩
    refine ⟨_, _, _, _, rfl, rfl, .of hB.kinds, atI_nat (j := i) (by rw [List.getElem?_map, List.getElem?_eq_getElem hi]; rfl), q i rfl hi _ ⟨_, List.getElem?_eq_getElem hi, rfl⟩⟩
theorem scParts : FnScope ["self", "term"] ["self", "term"] (defScope (mth 8)) := ⟨rfl, rfl, rfl, by decide +kernel, rfl, by decide +kernel, by decide +kernel⟩
theorem ok_parts {f : Addr} {fd : FuncData} {k : Nat} (F : Fun K "parts" "Book.parts" (mth 8) f fd) (c : BkC K C) (G : ChkC P w K mg base C C2 k) : FnOk P w K mg base (CX P w) (k + 1) f fd ["self", "term"] (spTell P w C C2 rParts) := by
  refine F.okX scParts (fun vs H Q E h => ?_) (fun cdv A outer s H vs Q E hr h => ?_)
  · obtain ⟨B, n, es, v, t, rfl, _⟩ := h
    rfl
  · obtain ⟨B, n, es, v, t, rfl, hB, ht, q, qe⟩ := h
    have tk := takes_of (X := cxOf (CX P w) P w K mg base ["self", "term"] "Book.parts" (defScope (mth 8)) f cdv A outer s H E) (E := E) rfl rfl rfl rfl
    refine ⟨_, pss_cons (ps_expr (pe_meth (pv 0) c.cls G.m G.F hr G.b .nil (passes_call tk (E := E) fun _ _ _ _ h => h) (pa_cons (pv 1) pa_nil))) (pss_one (ps_ret (pe_ix ix_list (pe_fld (pv 0) rfl) (pv 1) (fun _ _ => rfl)))), ?_⟩
    refine ⟨_, rfl, B.b, B.dx, _, rfl, hB.ins, rfl, _, rfl, ?_⟩
    refine ⟨B, n, es, v, t, rfl, hB, ht, fun hb => ?_, qe⟩
    obtain ⟨i, rfl, hi⟩ := below_int hb
    obtain ⟨ps, p, hp, hpi, hpp⟩ := hB.part (List.getElem?_eq_getElem hi)
    refine ⟨_, rfl, _, _, _, _, _, rfl, hB.ins, c.cls, c.na _ (by simp), rfl, _, rfl, ?_⟩
    refine ⟨_, _, _, _, rfl, rfl, .of hp, atI_nat (j := i) (by rw [List.getElem?_map, hpi]; rfl), q i rfl hi _ ⟨_, p, List.getElem?_eq_getElem hi, rfl, hpp⟩⟩
/-- the constant LEAVES -/
structure LeavC (K : PySem.W.Frag) (mg : Str → Option Value) where
  a : Addr
  g : mg "LEAVES" = some (.ref a)
  at_ : ∀ H, SqT K H a [.str "name", .str "number", .str "fresh"]
theorem scInner : FnScope ["self", "term"] ["self", "term"] (defScope (mth 16)) := ⟨rfl, rfl, rfl, by decide +kernel, rfl, by decide +kernel, by decide +kernel⟩
theorem eqv_str (x y : Str) : PyData.eqv (.str x) (.str y) = decide (x = y) := by
  rw [PyData.eqv]
  by_cases h : x = y
  · subst h; simp
  · rw [decide_eq_false h]; exact beq_eq_false_iff_ne.mpr h
theorem shaped_str {x : Str} (h : PyData.strOk x = true) : SeqAt.shaped (.str x) = true := by simp [h, SeqAt.shaped, PyData.canLay0, PyData.depth]
theorem kinds_ok : ∀ x ∈ (["name", "number", "fresh", "row", "made", "lock", "box", "chest", "mark", "print"] : List Str), PyData.strOk x = true := by decide +kernel
theorem sizes_kinds : ∀ p ∈ sizesK, p.1 ∈ (["name", "number", "fresh", "row", "made", "lock", "box", "chest", "mark", "print"] : List Str) := by decide +kernel
theorem Ok1.kind {n : Nat} {e : Ent} (h : Ok1 n e) : e.1 ∈ (["name", "number", "fresh", "row", "made", "lock", "box", "chest", "mark", "print"] : List Str) := by
  cases h with
  | name x h => exact List.mem_cons_self
  | num j h0 h1 => show ("number" : Str) ∈ _; decide +kernel
  | fresh j h0 => show ("fresh" : Str) ∈ _; decide +kernel
  | row is hl h => show ("row" : Str) ∈ _; decide +kernel
  | parts k is hk h => exact sizes_kinds _ hk
theorem shaped_leaves : SeqAt.shaped (.tuple [.str "name", .str "number", .str "fresh"]) = true := by
  have a : PyData.strOk "name" = true := by decide +kernel
  have b : PyData.strOk "number" = true := by decide +kernel
  have c : PyData.strOk "fresh" = true := by decide +kernel
  simp [a, b, c, SeqAt.shaped, PyData.canLay0, PyData.canLayAll0, PyData.depth, PyData.depthAll]
theorem any_leaf (x : Str) : (([.str "name", .str "number", .str "fresh"] : List PyData).any fun z => PyData.eqv z (.str x)) = leafK x := by
  simp only [List.any_cons, List.any_nil, Bool.or_false, eqv_str]
  rw [Bool.eq_iff_iff]
  simp only [leafK, List.mem_cons, List.not_mem_nil, or_false, Bool.or_eq_true, decide_eq_true_eq]
  constructor
  · rintro (h | h | h)
    · exact .inl h.symm
    · exact .inr (.inl h.symm)
    · exact .inr (.inr h.symm)
  · rintro (h | h | h)
    · exact .inl h.symm
    · exact .inr (.inl h.symm)
    · exact .inr (.inr h.symm)
theorem ok_inner {f : Addr} {fd : FuncData} {k : Nat} (F : Fun K "_inner" "Book._inner" (mth 16) f fd) (c : BkC K C) (L : LeavC K mg) : FnOk P w K mg base CX0 (k + 1) f fd ["self", "term"] (spInner C) := by
  refine F.ok scInner (fun vs H Q E h => ?_) (fun cdv A outer s H vs Q E hr h => ?_)
  · obtain ⟨B, n, es, e, i, rfl, _⟩ := h
    rfl
  · obtain ⟨B, n, es, e, i, rfl, hB, he, ⟨om, ok1⟩, q⟩ := h
    refine ⟨_, pss_one (ps_ret (pe_ifExp (pt_cmpR (op_inTD (u65 hr)) (pe_ix ix_list (pe_fld (pv 0) rfl) (pv 1) (fun _ _ => rfl)) (pe_glob (v := .ref L.a) (by rfl) L.g rfl) (by rfl)) (pe_tup pa_nil) (pe_ix ix_list (pe_fld (pv 0) rfl) (pv 1) (fun _ _ => rfl)))), ?_⟩
    obtain ⟨ps, p, hp, hpi, hpp⟩ := hB.part he
    refine ⟨_, rfl, _, _, _, _, _, rfl, hB.ins, c.cls, c.na _ (by simp), rfl, _, rfl, ?_⟩
    refine ⟨_, _, _, _, rfl, rfl, .of hB.kinds, atI_nat (j := i) (by rw [List.getElem?_map, he]; rfl), ?_⟩
    refine ⟨.str e.1, [.str "name", .str "number", .str "fresh"], .str _, .tup (L.at_ _) (.cons (.str _) (.cons (.str _) (.cons (.str _) .nil))), shaped_str (kinds_ok _ ok1.kind), shaped_leaves, _, rfl, ?_⟩
    rw [any_leaf]
    cases hl : leafK e.1 with
    | true =>
      refine iteT ⟨by show 0 ≤ sizeLine; decide, fun t nt => ?_⟩
      refine q _ t (same_upd nt) ?_
      rw [upd_same]
      have e0 : inner e = [] := by unfold inner; rw [if_pos hl]
      rw [e0]; rfl
    | false =>
      refine iteF ⟨_, rfl, _, _, _, _, _, rfl, hB.ins, c.cls, c.na _ (by simp), rfl, _, rfl, ?_⟩
      refine ⟨_, _, _, _, rfl, rfl, .of hp, atI_nat (j := i) (by rw [List.getElem?_map, hpi]; rfl), q _ p (Same.refl H) ?_⟩
      rw [hpp, ok1.parts_eq hl]
theorem seqT {K : PySem.W.Frag} {H H' : Hp} {a : Addr} {xs : List V} (e : Same H H') (h : SqT K H a xs) : SqT K H' a xs := by
  rcases h with (h | ⟨o, h⟩) | h
  · exact .inl (.inl (e _ _ h))
  · exact .inl (.inr ⟨o, e _ _ h⟩)
  · exact .inr h
theorem pi_or {X : Cx} {tg e : Expr} {w1 w2 : TI} (h1 : PI X tg e w1) (h2 : PI X tg e w2) : PI X tg e (fun σ H R => w1 σ H R ∨ w2 σ H R) := ⟨fun pins s σ H R I h => h.elim (h1.run pins s σ H R I) (h2.run pins s σ H R I)⟩
theorem all_range (xs : List V) (f : V → Bool) : ((List.range xs.length).map fun i => f (xs.getD i .non)).all id = xs.all f := by
  rw [List.all_map, Bool.eq_iff_iff, List.all_eq_true, List.all_eq_true]
  constructor
  · intro h c hc
    obtain ⟨i, hi, rfl⟩ := List.mem_iff_getElem.mp hc
    have q : f (xs.getD i .non) = true := h i (List.mem_range.mpr hi)
    rw [List.getD_eq_getElem?_getD, List.getElem?_eq_getElem hi] at q
    exact q
  · intro h i hi
    have hi : i < xs.length := List.mem_range.mp hi
    show f (xs.getD i .non) = true
    rw [List.getD_eq_getElem?_getD, List.getElem?_eq_getElem hi]
    exact h _ (List.getElem_mem hi)
theorem scAreT : FnScope ["self", "things", "size", "thing"] ["self", "things"] (defScope (mth 13)) := ⟨rfl, rfl, rfl, by decide +kernel, rfl, by decide +kernel, by decide +kernel⟩
theorem ok_areT {f fB fS : Addr} {fd fdB fdS : FuncData} {k : Nat} (F : Fun K "_are_terms" "Book._are_terms" (mth 13) f fd) (T : PlTxt mg) (c : BkC K C) (FB : Fun K "is_below" "is_below" sBelow fB fdB) (gB : mg "is_below" = some (.ref fB)) (bB : Binds K fdB ["bound", "thing"] [])
    (FS : Fun K "size" "Book.size" (mth 4) fS fdS) (mS : Meth K C "size" fS) (bS : Binds K fdS ["self"] []) : FnOk P w K mg base CX0 (k + 2) f fd ["self", "things"] (spAreT P w K C) := by
  have GB : FnOk P w K mg base CX0 (k + 1) fB fdB ["bound", "thing"] spBelow := ok_below FB T
  have GS : FnOk P w K mg base CX0 (k + 1) fS fdS ["self"] (spSize C) := ok_size FS T c
  refine F.ok scAreT (fun vs H Q E h => ?_) (fun cdv A outer s H vs Q E hr h => ?_)
  · obtain ⟨B, n, es, a, xs, rfl, _⟩ := h
    rfl
  · obtain ⟨B, n, es, a, xs, rfl, hB, hS, hl, hx, q⟩ := h
    refine ⟨_, pss_cons (ps_set (i := 2) scAreT.nd rfl (Or.inr rfl) (pe_meth0 (pv 0) c.cls mS GS hr bS .nil pass0))
      (pss_one (ps_ret (pe_callB (cr_all rfl) (by rfl) T.all_ (by decide +kernel) (pa_cons (pe_lc (own := [("thing", 3)]) (g := gName 3) rfl scAreT.nd (pi_or (pi_list (pv 1)) (pi_tup (pv 1)))
          (blkOk_by (N := ["self", "things", "size", "thing"]) (sc := defScope (mth 13)) (by decide +kernel)) (fun _ _ _ _ _ => pg_name (i := 3) scAreT.nd rfl (Or.inl rfl)) (fun _ _ _ _ _ => pts_nil)
          (fun _ _ _ _ _ => pe_call GB hr (by rfl) gB FB.kp bB .nil pass0 (pa_cons (pv 2) (pa_cons (pv 3) pa_nil)))) pa_nil)))), ?_⟩
    refine ⟨_, rfl, B.b, B.dx, _, rfl, hB.ins, rfl, B, n, es, rfl, hB.kp, ?_⟩
    have lt : xs.length < sizeLine := Nat.lt_of_le_of_lt hl (by decide)
    have fin : ∀ D H', Same H H' → H' D = some (.lst ((List.range xs.length).map fun i => V.bl (belowV (es.length : Nat) (xs.getD i .non)))) → rAll K [.ref D] H' Q := fun D H' sm hd =>
      ⟨D, (List.range xs.length).map fun i => belowV (es.length : Nat) (xs.getD i .non), rfl, .inl (.inl (by rw [hd, List.map_map]; rfl)), by rw [all_range]; exact q _ sm⟩
    have step : ∀ (D : Addr) (i : Nat) (y : V) (H1 H2 : Hp) (Q' : VK), i < xs.length → Same H H1 → H2 = H1 ∧ xs[i]? = some y → (∀ H4, Same H1 H4 → Q' (V.bl (belowV (es.length : Nat) (xs.getD i .non))) H4) →
        spBelow [.int (es.length : Nat), y] H2 Q' E0 := by
      rintro D i y H1 H2 Q' hi sm ⟨rfl, hy⟩ hq
      obtain ⟨t, ht⟩ := hx y (List.mem_of_getElem? hy)
      refine ⟨_, y, t, rfl, ht.keep sm, ?_⟩
      have e : xs.getD i .non = y := by rw [List.getD_eq_getElem?_getD, hy]; rfl
      have := hq _ (Same.refl H2)
      rw [e] at this
      exact this
    rcases hS with hS | hS
    · refine Or.inl ⟨_, rfl, a, rfl, ⟨xs, hS⟩, fun D hD => ?_⟩
      refine lcP walk_list (fun i => V.bl (belowV (es.length : Nat) (xs.getD i .non))) lt hD (fun _ sm => sm.seq hS) ?_ ?_
      · intro i y H1 H2 Q' hi sm hy hq
        exact ⟨rfl, _, rfl, _, rfl, step D i y H1 H2 Q' hi sm hy hq⟩
      · intro H' sm hd
        exact fin D H' sm hd
    · refine Or.inr ⟨_, rfl, a, rfl, ⟨xs, hS⟩, fun D hD => ?_⟩
      refine lcP walk_tup (fun i => V.bl (belowV (es.length : Nat) (xs.getD i .non))) lt hD (fun _ sm => seqT sm hS) ?_ ?_
      · intro i y H1 H2 Q' hi sm hy hq
        exact ⟨rfl, _, rfl, _, rfl, step D i y H1 H2 Q' hi sm hy hq⟩
      · intro H' sm hd
        exact fin D H' sm hd
end
end L2.Bk
end
section
set_option Elab.async false
set_option linter.all false
set_option maxRecDepth 100000
set_option maxHeartbeats 4000000
namespace L2.Bk
open L2.My PySem PySem.Spec PyProof.Rows
/-! ### _fits -/
def putK9 : List Str := ["name", "number", "row", "made", "lock", "box", "chest", "mark", "print"]
def one1 (f : V → Bool) : List V → Bool
  | [x] => f x
  | _ => false
theorem one1_ne {f : V → Bool} {xs : List V} (h : ¬ xs.length = 1) : one1 f xs = false := by
  match xs, h with
  | [], _ => rfl
  | [x], h => exact absurd rfl h
  | x :: y :: r, _ => rfl
def fitsT (n : Nat) (kd : Str) (xs : List V) : Bool :=
  if kd = "name" then one1 nameV xs
  else if kd = "number" then one1 (belowV 1000000000000) xs
  else (if kd = "row" then decide (xs.length ≤ 400) else decide ((kd, xs.length) ∈ sizesK)) && xs.all (belowV (n : Nat))
/-- parts that may be tried: things, not too many, no text too long -/
structure PtOk (H : Hp) (xs : List V) : Prop where
  len : xs.length ≤ 1000
  ty : ∀ x ∈ xs, ∃ t, ThT H x t
  str : ∀ x ∈ xs, ∀ z, x = .str z → z.length ≤ 1000 ∧ z.cps.toList.all goodC = true
def fitsV (H : Hp) (n : Nat) (kd : Str) (v : V) (c : Bool) : Prop := (∃ a xs, v = .ref a ∧ H a = some (.tup xs) ∧ PtOk H xs ∧ c = fitsT n kd xs) ∨ (∃ t, ThT H v t ∧ t ≠ "tuple" ∧ c = false)
structure ConC (K : PySem.W.Frag) (w : World) (mg : Str → Option Value) where
  a : Addr
  g : mg "COUNTS" = some (.ref a)
  at_ : ∀ p ∈ sizesK, KDct K w a p.1 (.int (p.2 : Nat))
  mi : ∃ t, mg "MOST_ITEMS" = some (.int 400 t)
  nb : ∃ t, mg "NUMBER_BOUND" = some (.int 1000000000000 t)
def spFits (P : Program) (w : World) (C : Addr) : Sp := fun vs H Q _ => ∃ B n es kd v c, vs = [.ref B.b, .str kd, v] ∧ BookN P w H C B n es ∧ kd ∈ putK9 ∧ fitsV H es.length kd v c ∧ ∀ H', Same H H' → Q (.bl c) H'
section
variable {P : Program} {w : World} {K : PySem.W.Frag} {mg : Str → Option Value} {base : Heap} {C C0 C1 C2 C3 : Addr}
theorem scFits : FnScope ["self", "kind", "parts", "right"] ["self", "kind", "parts"] (defScope (mth 14)) := ⟨rfl, rfl, rfl, by decide +kernel, rfl, by decide +kernel, by decide +kernel⟩
theorem putK9_mem {kd : Str} (h : kd ∈ putK9) : kd = "name" ∨ kd = "number" ∨ kd = "row" ∨ (kd ≠ "name" ∧ kd ≠ "number" ∧ kd ≠ "row" ∧ ∃ m : Nat, (kd, m) ∈ sizesK ∧ ∀ j, (kd, j) ∈ sizesK → j = m) := by
  have key : ∀ x ∈ putK9, x = "name" ∨ x = "number" ∨ x = "row" ∨ (x ≠ "name" ∧ x ≠ "number" ∧ x ≠ "row" ∧ ∃ p ∈ sizesK, p.1 = x ∧ ∀ q ∈ sizesK, q.1 = x → q.2 = p.2) := by decide +kernel
  rcases key kd h with h | h | h | ⟨h1, h2, h3, p, hp, rfl, hu⟩
  · exact .inl h
  · exact .inr (.inl h)
  · exact .inr (.inr (.inl h))
  · exact .inr (.inr (.inr ⟨h1, h2, h3, p.2, hp, fun j hj => hu _ hj rfl⟩))
theorem ok_fits {f fB fN fA : Addr} {fd fdB fdN fdA : FuncData} {k : Nat} (F : Fun K "_fits" "Book._fits" (mth 14) f fd) (T : PlTxt mg) (c : BkC K C) (CC : ConC K w mg)
    (GB : FnOk P w K mg base CX0 (k + 1) fB fdB ["bound", "thing"] spBelow) (kB : PySem.W.keepIn K (.ref fB) = true) (gB : mg "is_below" = some (.ref fB)) (bB : Binds K fdB ["bound", "thing"] [])
    (GN : FnOk P w K mg base CX0 (k + 2) fN fdN ["thing"] spNameT) (kN : PySem.W.keepIn K (.ref fN) = true) (gN : mg "is_name_text" = some (.ref fN)) (bN : Binds K fdN ["thing"] [])
    (GA : FnOk P w K mg base CX0 (k + 2) fA fdA ["self", "things"] (spAreT P w K C)) (mA : Meth K C "_are_terms" fA) (bA : Binds K fdA ["self", "things"] []) : FnOk P w K mg base CX0 (k + 3) f fd ["self", "kind", "parts"] (spFits P w C) := by
  obtain ⟨t1, hmi⟩ := CC.mi
  obtain ⟨t2, hnb⟩ := CC.nb
  refine F.ok scFits (fun vs H Q E h => ?_) (fun cdv A outer s H vs Q E hr h => ?_)
  · obtain ⟨B, n, es, kd, v, b, rfl, _⟩ := h
    rfl
  · obtain ⟨B, n, es, kd, v, b, rfl, hB, hk, hv, q⟩ := h
    refine ⟨_, pss_cons (ps_if (pt_not (pt_val (pe_callB call_isTh (by rfl) T.isi (by decide +kernel) (pa_cons (pv 2) (pa_cons (pe_bltn (v := .ty "tuple") (u := .type "tuple") (by rfl) T.tuple_ (by decide +kernel) rfl) pa_nil))))) (pss_one (ps_ret pe_bl)) pss_nil)
      (pss_cons (ps_if (pt_cmpR op_eq (pv 1) pe_str (nomark _)) (pss_one (ps_ret (pe_and (pe_cmpR op_eq (pe_callB call_len_seq (by rfl) T.len_ PySem.boot_len (pa_cons (pv 2) pa_nil)) pe_int (nomark _))
          (pe_one (pe_call GN (hr.mono (by omega)) (by rfl) gN kN bN .nil pass0 (pa_cons (pe_ix ix_tup (pv 2) pe_int (fun _ _ => rfl)) pa_nil)))))) pss_nil)
      (pss_cons (ps_if (pt_cmpR op_eq (pv 1) pe_str (nomark _)) (pss_one (ps_ret (pe_and (pe_cmpR op_eq (pe_callB call_len_seq (by rfl) T.len_ PySem.boot_len (pa_cons (pv 2) pa_nil)) pe_int (nomark _))
          (pe_one (pe_call GB (hr.mono (by omega)) (by rfl) gB kB bB .nil pass0 (pa_cons (pe_glob (v := .int 1000000000000) (by rfl) hnb ⟨t2, rfl⟩) (pa_cons (pe_ix ix_tup (pv 2) pe_int (fun _ _ => rfl)) pa_nil))))))) pss_nil)
      (pss_cons (ps_set (i := 3) scFits.nd rfl (Or.inl rfl) (pe_ifExp (pt_cmpR op_eq (pv 1) pe_str (nomark _)) (pe_cmpR op_le (pe_callB call_len_seq (by rfl) T.len_ PySem.boot_len (pa_cons (pv 2) pa_nil)) (pe_glob (v := .int 400) (by rfl) hmi ⟨t1, rfl⟩) (nomark _))
          (pe_cmpR op_eq (pe_callB call_len_seq (by rfl) T.len_ PySem.boot_len (pa_cons (pv 2) pa_nil)) (pe_ix ix_kdict (pe_glob (v := .ref CC.a) (by rfl) CC.g rfl) (pv 1) (fun _ _ => rfl)) (nomark _))))
      (pss_one (ps_ret (pe_and (pv 3) (pe_one (pe_meth (pv 0) c.cls mA GA (hr.mono (by omega)) bA .nil pass0 (pa_cons (pv 2) pa_nil))))))))), ?_⟩
    rcases hv with ⟨a, xs, rfl, ha, hp, rfl⟩ | ⟨t, ht, hne, rfl⟩
    · refine ⟨_, rfl, _, "tuple", "tuple", rfl, .tup ha, by decide, _, rfl, ?_⟩
      refine iteF ?_
      have lt : xs.length ≤ 100000 := Nat.le_trans hp.len (by decide)
      have one : xs.length = 1 → ∃ x t, xs = [x] ∧ ThT H x t ∧ ∀ z, x = .str z → z.length ≤ 1000 := fun h1 => by
        match xs, h1 with
        | [x], _ =>
          obtain ⟨t, ht⟩ := hp.ty x (by simp)
          exact ⟨x, t, rfl, ht, fun z e => (hp.str x (by simp) z e).1⟩
      have lenI : ∀ j : Nat, decide (V.int (xs.length : Nat) = V.int (j : Nat)) = decide (xs.length = j) := fun j => by
        rw [dec_int]
        by_cases hj : xs.length = j
        · rw [decide_eq_true hj, hj]; simp
        · rw [decide_eq_false hj]; simp; omega
      have fin : ∀ H', Same H H' → Q (.bl (fitsT es.length kd xs)) H' := q
      have sd : ∀ z : Str, decide (V.str kd = V.str z) = decide (kd = z) := fun z => by
        by_cases hz : kd = z
        · rw [decide_eq_true hz, hz]; simp
        · rw [decide_eq_false hz]; simp [hz]
      have sq : SqT K H a xs := .of ha
      refine ⟨_, rfl, rfl, _, rfl, ?_⟩
      rw [sd]
      by_cases e1 : kd = "name"
      · rw [decide_eq_true e1]
        refine iteT ⟨_, rfl, _, _, rfl, .inr sq, rfl, ?_⟩
        refine ⟨_, rfl, ?_⟩
        rw [show (V.int 1) = V.int ((1 : Nat) : Int) from rfl, lenI]
        have ef : fitsT es.length kd xs = one1 nameV xs := by unfold fitsT; rw [if_pos e1]
        rw [ef] at fin
        by_cases h1 : xs.length = 1
        · rw [decide_eq_true h1]
          obtain ⟨x, t, rfl, hx, hz⟩ := one h1
          refine iteT ⟨_, rfl, a, _, _, x, rfl, rfl, sq, rfl, ?_⟩
          exact ⟨x, t, rfl, hx, fun z e => Nat.le_trans (hz z e) (by decide), fun H' sm => fin H' sm⟩
        · rw [decide_eq_false h1]
          rw [one1_ne h1] at fin
          exact iteF (fin _ (Same.refl H))
      rw [decide_eq_false e1]
      refine iteF ?_
      refine ⟨_, rfl, rfl, _, rfl, ?_⟩
      rw [sd]
      by_cases e2 : kd = "number"
      · rw [decide_eq_true e2]
        refine iteT ⟨_, rfl, _, _, rfl, .inr sq, rfl, ?_⟩
        refine ⟨_, rfl, ?_⟩
        rw [show (V.int 1) = V.int ((1 : Nat) : Int) from rfl, lenI]
        have ef : fitsT es.length kd xs = one1 (belowV 1000000000000) xs := by unfold fitsT; rw [if_neg e1, if_pos e2]
        rw [ef] at fin
        by_cases h1 : xs.length = 1
        · rw [decide_eq_true h1]
          obtain ⟨x, t, rfl, hx, hz⟩ := one h1
          refine iteT ⟨_, rfl, a, _, _, x, rfl, rfl, sq, rfl, ?_⟩
          exact ⟨_, x, t, rfl, hx, fin _ (Same.refl H)⟩
        · rw [decide_eq_false h1]
          rw [one1_ne h1] at fin
          exact iteF (fin _ (Same.refl H))
      rw [decide_eq_false e2]
      refine iteF ?_
      have ef : fitsT es.length kd xs = ((if kd = "row" then decide (xs.length ≤ 400) else decide ((kd, xs.length) ∈ sizesK)) && xs.all (belowV (es.length : Nat))) := by unfold fitsT; rw [if_neg e1, if_neg e2]
      rw [ef] at fin
      -- the last line
      have last : ∀ r : Bool, r = (if kd = "row" then decide (xs.length ≤ 400) else decide ((kd, xs.length) ∈ sizesK)) →
          tAndV (tVar 3) (tMeth C "_are_terms" (spAreT P w K C) [] E0 (tVar 0) (tCons (tVar 2) tNil)) [some (.ref B.b), some (.str kd), some (.ref a), some (.bl r)] H Q := by
        intro r er
        refine ⟨_, rfl, r, rfl, ?_⟩
        rw [← er] at fin
        cases r with
        | true => exact iteT ⟨_, rfl, B.b, B.dx, _, rfl, hB.ins, rfl, _, rfl, B, n, es, a, xs, rfl, hB, .inr sq, lt, hp.ty, fin⟩
        | false => exact iteF (fin _ (Same.refl H))
      refine ⟨_, rfl, rfl, _, rfl, ?_⟩
      rw [sd]
      by_cases e3 : kd = "row"
      · rw [decide_eq_true e3]
        refine iteT ⟨_, rfl, _, _, rfl, .inr sq, ?_⟩
        refine ⟨_, _, rfl, rfl, ?_⟩
        have e4 : decide ((xs.length : Int) ≤ 400) = decide (xs.length ≤ 400) := by
          by_cases h : xs.length ≤ 400
          · rw [decide_eq_true h, decide_eq_true (by omega)]
          · rw [decide_eq_false h, decide_eq_false (by omega)]
        exact last (decide ((xs.length : Int) ≤ 400)) (by rw [if_pos e3, e4])
      · rw [decide_eq_false e3]
        rcases putK9_mem hk with h | h | h | ⟨_, _, _, m, hm, hu⟩
        · exact absurd h e1
        · exact absurd h e2
        · exact absurd h e3
        refine iteF ⟨_, rfl, _, _, rfl, .inr sq, ?_⟩
        refine ⟨_, rfl, CC.a, kd, _, rfl, rfl, CC.at_ _ hm, rfl, ?_⟩
        refine last (decide (V.int (xs.length : Nat) = V.int (m : Nat))) ?_
        rw [lenI, if_neg e3]
        by_cases h : xs.length = m
        · rw [decide_eq_true h, h, decide_eq_true hm]
        · rw [decide_eq_false h, decide_eq_false (fun z => h (hu _ z))]
    · refine ⟨_, rfl, _, "tuple", t, rfl, ht, by decide, _, rfl, ?_⟩
      have e : instT t "tuple" = false := by
        cases ht <;> first | rfl | exact absurd rfl hne
      rw [e]
      exact iteT (q _ (Same.refl H))
end
end L2.Bk
end
section
set_option Elab.async false
set_option linter.all false
set_option maxRecDepth 100000
set_option maxHeartbeats 4000000
namespace L2.Bk
open L2.My PySem PySem.Spec PyProof.Rows
def spPutNew (P : Program) (w : World) (C : Addr) : Sp := fun vs H Q _ => ∃ B n es kd p, ∃ ks : List Key, vs = [.ref B.b, .str kd, .ref p] ∧ BookN P w H C B n es ∧ H p = some (.tup (ks.map kV)) ∧ Ok1 es.length (kd, ks) ∧ (kd, ks) ∉ es ∧
  (∀ i : Int, kd = "fresh" → ks = [.inl i] → 0 ≤ i ∧ i < n) ∧ es.length < 30000 ∧ ∀ H', BL B.foot H H' → BookN P w H' C B n (es ++ [(kd, ks)]) → Q (.int (es.length : Nat)) H'
theorem paired_snoc {α β : Type} {G : α → β → Prop} {xs : List α} {ys : List β} {x : α} {y : β} (h : Paired G xs ys) (g : G x y) : Paired G (xs ++ [x]) (ys ++ [y]) := PySem.Paired.snoc h g
theorem rMax0 {K : PySem.W.Frag} {H : Hp} {D : Addr} {ns : List Int} {Q : VK} (hD : SqL K H D (ns.map V.int)) (hp : ∀ y ∈ ns, 0 ≤ y) (h : ∀ m, IsMax0 ns m → Q (.int m) H) : rMaxD K [.ref D] [.int 0] H Q :=
  ⟨D, ns, 0, rfl, rfl, hD, fun h0 => h 0 ⟨.inl rfl, Int.le_refl _, fun y hy => by rw [h0] at hy; exact nomatch hy⟩, fun m hm hy => h m ⟨.inr hm, hp m hm, hy⟩⟩
theorem range_getD {α β : Type} (xs : List α) (d : α) (f : α → β) : (List.range xs.length).map (fun i => f (xs.getD i d)) = xs.map f := by
  apply List.ext_getElem
  · rw [List.length_map, List.length_map, List.length_range]
  · intro i h1 h2
    rw [List.getElem_map, List.getElem_map, List.getElem_range, List.getD_eq_getElem?_getD, List.getElem?_eq_getElem (by rw [List.length_map] at h2; exact h2)]
    rfl
section
variable {P : Program} {w : World} {K : PySem.W.Frag} {mg : Str → Option Value} {base : Heap} {C C0 C1 C2 C3 : Addr}
theorem scPutNew : FnScope ["self", "kind", "parts", "number", "part"] ["self", "kind", "parts"] (defScope (mth 15)) := ⟨rfl, rfl, rfl, by decide +kernel, rfl, by decide +kernel, by decide +kernel⟩
theorem ok_putNew {f fS fI : Addr} {fd fdS fdI : FuncData} {k : Nat} (F : Fun K "_put_new" "Book._put_new" (mth 15) f fd) (T : PlTxt mg) (c : BkC K C)
    (GS : FnOk P w K mg base CX0 (k + 1) fS fdS ["self"] (spSize C)) (mS : Meth K C "size" fS) (bS : Binds K fdS ["self"] [])
    (GI : FnOk P w K mg base CX0 (k + 1) fI fdI ["self", "term"] (spInner C)) (mI : Meth K C "_inner" fI) (bI : Binds K fdI ["self", "term"] []) : FnOk P w K mg base CX0 (k + 2) f fd ["self", "kind", "parts"] (spPutNew P w C) := by
  refine F.ok scPutNew (fun vs H Q E h => ?_) (fun cdv A outer s H vs Q E hr h => ?_)
  · obtain ⟨B, n, es, kd, p, ks, rfl, _⟩ := h
    rfl
  · obtain ⟨B, n, es, kd, p, ks, rfl, hB, hp, ok1, hnew, hfr, hlen, q⟩ := h
    refine ⟨_, pss_cons (ps_set (i := 3) scPutNew.nd rfl (Or.inl rfl) (pe_meth0 (pv 0) c.cls mS GS hr bS .nil pass0))
      (pss_cons (ps_expr (pe_bm PySem.F.plainAttrs_list PySem.F.slot_list_append PySem.F.type_list_append mt_append (pe_fld (pv 0) rfl) (pa_cons (pv 1) pa_nil)))
      (pss_cons (ps_expr (pe_bm PySem.F.plainAttrs_list PySem.F.slot_list_append PySem.F.type_list_append mt_append (pe_fld (pv 0) rfl) (pa_cons (pv 2) pa_nil)))
      (pss_cons (ps_expr (pe_bm PySem.F.plainAttrs_list PySem.F.slot_list_append PySem.F.type_list_append mt_append (pe_fld (pv 0) rfl) (pa_cons (pe_op op_add pe_int
          (pe_callBK (cr_maxD rfl) (by rfl) T.max_ (by decide +kernel) (pa_cons (pe_lc (te := tOp (rIxL K) (tFld K (tVar 0) "_depths") (tVar 4)) (own := [("part", 4)]) (g := gName 4) rfl scPutNew.nd (pi_tup (pe_meth (pv 0) c.cls mI GI hr bI .nil pass0 (pa_cons (pv 3) pa_nil)))
            (blkOk_by (N := ["self", "kind", "parts", "number", "part"]) (sc := defScope (mth 15)) (by decide +kernel)) (fun _ _ _ _ _ => pg_name (i := 4) scPutNew.nd rfl (Or.inl rfl)) (fun _ _ _ _ _ => pts_nil)
            (fun _ _ _ _ _ => pe_ix ix_list (pe_fld (pv 0) rfl) (pv 4) (fun _ _ => rfl))) pa_nil) (pk_cons pe_int pk_nil))) pa_nil)))
      (pss_cons (ps_nput (u2 hr) (pe_fld (pv 0) rfl) (pe_tup (pa_cons (pv 1) (pa_cons (pv 2) pa_nil))) (pv 3) rfl)
      (pss_one (ps_ret (pv 3))))))), ?_⟩
    refine ⟨_, rfl, B.b, B.dx, _, rfl, hB.ins, rfl, B, n, es, rfl, hB.kp, ?_⟩
    have hB0 := hB
    obtain ⟨a1, a2, ⟨ps, a3, a3'⟩, ⟨ds, a4, a4'⟩, ⟨kvs, ⟨a5, a6⟩, a5'⟩, ⟨n1, n2, n3⟩, a8, a9⟩ := hB
    have big : (30001 : Nat) ≤ sizeLine := by decide
    have ps_len := Paired.length a3'
    refine ⟨_, rfl, _, _, _, _, _, rfl, a1, c.cls, c.na _ (by simp), rfl, .inl ⟨rfl, _, .of a2⟩, _, rfl, B.lk, _, _, rfl, rfl, a2, by rw [List.length_map]; omega, ?_⟩
    have e1 : (es.map fun e => V.str e.1) ++ [.str kd] = (es ++ [(kd, ks)]).map fun e => V.str e.1 := by rw [List.map_append]; rfl
    rw [e1]
    -- after the kinds
    have i1 : B.b ≠ B.lk := ne_of a1 a2 (fun z => nomatch z)
    have i2 : B.b ≠ B.lp := ne_of a1 a3 (fun z => nomatch z)
    have i3 : B.b ≠ B.ld := ne_of a1 a4 (fun z => nomatch z)
    have i4 : B.b ≠ B.dn := ne_of a1 a5 (fun z => nomatch z)
    have i5 : B.lk ≠ B.dn := ne_of a2 a5 (fun z => nomatch z)
    have i6 : B.lp ≠ B.dn := ne_of a3 a5 (fun z => nomatch z)
    have i7 : B.ld ≠ B.dn := ne_of a4 a5 (fun z => nomatch z)
    generalize hH1 : upd H B.lk (.lst ((es ++ [(kd, ks)]).map fun e => V.str e.1)) = H1
    have k1 : ∀ x o, x ≠ B.lk → H x = some o → H1 x = some o := fun x o hx e => by rw [← hH1, upd_ne hx]; exact e
    have kk1 : H1 B.lk = some (.lst ((es ++ [(kd, ks)]).map fun e => V.str e.1)) := by rw [← hH1, upd_same]
    have b1 := k1 _ _ i1 a1
    have p1 := k1 _ _ n1.symm a3
    have d1 := k1 _ _ n2.symm a4
    refine ⟨_, rfl, _, _, _, _, _, rfl, b1, c.cls, c.na _ (by simp), rfl, .inl ⟨rfl, _, .of p1⟩, _, rfl, B.lp, _, _, rfl, rfl, p1, by rw [List.length_map]; omega, ?_⟩
    have e2 : (ps.map V.ref) ++ [.ref p] = (ps ++ [p]).map V.ref := by rw [List.map_append]; rfl
    rw [e2]
    generalize hH2 : upd H1 B.lp (.lst ((ps ++ [p]).map V.ref)) = H2
    have k2 : ∀ x o, x ≠ B.lp → H1 x = some o → H2 x = some o := fun x o hx e => by rw [← hH2, upd_ne hx]; exact e
    have pp2 : H2 B.lp = some (.lst ((ps ++ [p]).map V.ref)) := by rw [← hH2, upd_same]
    have kk2 := k2 _ _ n1 kk1
    have b2 := k2 _ _ i2 b1
    have d2 := k2 _ _ n3.symm d1
    have t2 : ∀ b xs, H b = some (.tup xs) → H2 b = some (.tup xs) := fun b xs e => k2 _ _ (ne_of e a3 (fun z => nomatch z)) (k1 _ _ (ne_of e a2 (fun z => nomatch z)) e)
    have pr2 : Paired (fun (p : Addr) (e : Ent) => H2 p = some (.tup (e.2.map kV))) (ps ++ [p]) (es ++ [(kd, ks)]) := paired_snoc (Paired.mapP a3' fun _ _ z => t2 _ _ z) (t2 _ _ hp)
    have kp2 : BkKP H2 C B n (es ++ [(kd, ks)]) := ⟨b2, kk2, _, pp2, pr2⟩
    have eg : (es ++ [((kd, ks) : Ent)])[es.length]? = some (kd, ks) := by rw [List.getElem?_append_right (Nat.le_refl _), Nat.sub_self]; rfl
    have inl := ok1.inner_lt
    have dl := a4'.1
    refine ⟨_, rfl, _, _, _, _, _, rfl, b2, c.cls, c.na _ (by simp), rfl, .inl ⟨rfl, _, .of d2⟩, ?_⟩
    refine ⟨_, rfl, B.b, B.dx, _, rfl, b2, rfl, _, rfl, B, n, _, _, es.length, rfl, kp2, eg, ⟨_, ok1⟩, fun H3 qa s3 hq => ?_⟩
    refine ⟨qa, rfl, ⟨_, .of hq⟩, fun D hD => ?_⟩
    have sh : (inner (kd, ks)).length ≤ 400 := by
      have := ok1.short
      unfold inner
      split
      · exact Nat.zero_le _
      · exact Nat.le_trans (List.length_filterMap_le _ _) this
    refine lcP walk_tup (fun i => V.int (ds.getD ((inner (kd, ks)).getD i 0).toNat 0)) (by rw [List.length_map]; exact Nat.lt_of_le_of_lt sh (by decide)) hD (fun _ sm => seqT sm (.of hq)) ?_ ?_
    · rintro i y G1 G2 Q' hi sm ⟨rfl, hy⟩ hQ
      refine ⟨rfl, ?_⟩
      rw [List.length_map] at hi
      rw [List.getElem?_map, List.getElem?_eq_getElem hi] at hy
      cases hy
      have e : (inner (kd, ks)).getD i 0 = (inner (kd, ks))[i] := by rw [List.getD_eq_getElem?_getD, List.getElem?_eq_getElem hi]; rfl
      rw [e] at hQ
      have lt := inl _ (List.getElem_mem hi)
      have s4 := s3.trans sm
      refine ⟨_, rfl, _, _, _, _, _, rfl, s4 _ _ b2, c.cls, c.na _ (by simp), rfl, _, rfl, ?_⟩
      generalize (inner (kd, ks))[i] = j at *
      obtain ⟨m, rfl⟩ : ∃ m : Nat, j = (m : Int) := ⟨j.toNat, (Int.toNat_of_nonneg lt.1).symm⟩
      have hm : m < ds.length := by omega
      refine ⟨_, _, _, _, rfl, rfl, .of (s4 _ _ d2), atI_nat (j := m) (by rw [List.getElem?_map, List.getElem?_eq_getElem hm]; rfl), ?_⟩
      have e' : ds.getD (m : Int).toNat 0 = ds[m] := by rw [List.getD_eq_getElem?_getD, Int.toNat_natCast, List.getElem?_eq_getElem hm]; rfl
      rw [e'] at hQ
      exact hQ _ (Same.refl _)
    · intro H4 s34 hD4
      have s4 := s3.trans s34
      have en : (List.range ((inner (kd, ks)).map V.int).length).map (fun i => V.int (ds.getD ((inner (kd, ks)).getD i 0).toNat 0)) = ((inner (kd, ks)).map fun p => ds.getD p.toNat 0).map V.int := by
        rw [List.length_map, List.map_map]
        exact range_getD (inner (kd, ks)) 0 (fun p => V.int (ds.getD p.toNat 0))
      rw [en] at hD4
      have pos := DepOk.pos a4'
      dsimp only [tNil, tCons, tC]
      refine rMax0 (.of hD4) (fun y hy => ?_) fun m hm => ?_
      · obtain ⟨j, hj, rfl⟩ := List.mem_map.mp hy
        have lt := inl j hj
        rw [List.getD_eq_getElem?_getD, List.getElem?_eq_getElem (by omega)]
        exact pos _ (List.getElem_mem _)
      refine ⟨_, _, rfl, rfl, ?_⟩
      have d4 := s4 _ _ d2
      refine ⟨B.ld, _, _, rfl, rfl, d4, by rw [List.length_map]; omega, ?_⟩
      have e5 : (ds.map V.int) ++ [.int (1 + m)] = (ds ++ [1 + m]).map V.int := by rw [List.map_append]; rfl
      rw [e5]
      generalize hH5 : upd H4 B.ld (.lst ((ds ++ [1 + m]).map V.int)) = H5
      have k5 : ∀ x o, x ≠ B.ld → H4 x = some o → H5 x = some o := fun x o hx e => by rw [← hH5, upd_ne hx]; exact e
      have dd5 : H5 B.ld = some (.lst ((ds ++ [1 + m]).map V.int)) := by rw [← hH5, upd_same]
      have b5 := k5 _ _ i3 (s4 _ _ b2)
      refine ⟨_, rfl, _, rfl, _, _, _, _, _, rfl, b5, c.cls, c.na _ (by simp), rfl, ?_⟩
      refine ⟨_, rfl, _, rfl, by show 2 ≤ sizeLine; decide, fun t nt => ?_⟩
      have s6 : Same H5 (upd H5 t (.tup [.str kd, .ref p])) := same_upd nt
      have t4 : ∀ b xs, H b = some (.tup xs) → H5 b = some (.tup xs) := fun b xs e => k5 _ _ (ne_of e a4 (fun z => nomatch z)) (s4 _ _ (t2 b xs e))
      have n5 : H5 B.dn = some (NumO P w B.dn kvs) := k5 _ _ i7.symm (s4 _ _ (k2 _ _ i6.symm (k1 _ _ i5.symm a5)))
      refine ⟨B.dn, t, (kd, ks), kvs, rfl, rfl, ⟨s6 _ _ n5, fun x hx => (a6 x hx).keep fun b xs e => s6 _ _ (t4 b xs e)⟩, ⟨p, upd_same, s6 _ _ (t4 _ _ hp)⟩, ?_, ?_, ?_⟩
      · intro hm
        obtain ⟨x, hx, hxe⟩ := List.mem_map.mp hm
        obtain ⟨j, hj⟩ := List.mem_iff_getElem?.mp hx
        have hjl : j < es.length := by rw [← a5'.1]; exact (List.getElem?_eq_some_iff.mp hj).1
        obtain ⟨q', hq'⟩ := a5'.2 j _ (List.getElem?_eq_getElem hjl)
        rw [hj] at hq'
        cases hq'
        exact hnew (hxe ▸ List.getElem_mem hjl)
      · rw [a5'.1]; omega
      generalize hH6 : upd H5 t (.tup [.str kd, .ref p]) = H6 at s6
      refine ⟨_, rfl, ?_⟩
      show Q (.int (es.length : Nat)) (upd H6 B.dn (NumO P w B.dn (kvs ++ [((kd, ks), t, V.int (es.length : Nat))])))
      generalize hH7 : upd H6 B.dn (NumO P w B.dn (kvs ++ [((kd, ks), t, V.int (es.length : Nat))])) = H7
      have k7 : ∀ x o, x ≠ B.dn → H5 x = some o → H7 x = some o := fun x o hx e => by rw [← hH7, upd_ne hx]; exact s6 _ _ e
      have t7 : ∀ b xs, H b = some (.tup xs) → H7 b = some (.tup xs) := fun b xs e => k7 _ _ (ne_of e a5 (fun z => nomatch z)) (t4 b xs e)
      have lk7 : H7 B.lk = some (.lst ((es ++ [(kd, ks)]).map fun e => V.str e.1)) := k7 _ _ i5 (k5 _ _ n2 (s4 _ _ kk2))
      have lp7 : H7 B.lp = some (.lst ((ps ++ [p]).map V.ref)) := k7 _ _ i6 (k5 _ _ n3 (s4 _ _ pp2))
      have tt7 : H7 t = some (.tup [.str kd, .ref p]) := by
        rw [← hH7, upd_ne (ne_of_none n5 nt).symm, ← hH6, upd_same]
      refine q H7 ?_ ⟨k7 _ _ i4 b5, lk7, ⟨ps ++ [p], lp7, paired_snoc (Paired.mapP a3' fun _ _ z => t7 _ _ z) (t7 _ _ hp)⟩, ⟨ds ++ [1 + m], k7 _ _ i7 dd5, a4'.snoc a8.ok ok1 hm⟩,
        ⟨kvs ++ [((kd, ks), t, V.int (es.length : Nat))], ⟨by rw [← hH7, upd_same], fun x hx => ?_⟩, ?_, ?_⟩, ⟨n1, n2, n3⟩, ⟨?_, ?_, ?_⟩, ?_⟩
      · intro x o hx e
        simp only [BP.foot, List.mem_cons, List.not_mem_nil, or_false, not_or] at hx
        exact k7 _ _ hx.2.2.2.2 (k5 _ _ hx.2.2.2.1 (s4 _ _ (k2 _ _ hx.2.2.1 (k1 _ _ hx.2.1 e))))
      · rcases List.mem_append.mp hx with hx | hx
        · exact (a6 x hx).keep t7
        · rw [List.mem_singleton] at hx
          rw [hx]
          exact ⟨p, tt7, t7 _ _ hp⟩
      · rw [List.length_append, List.length_append, a5'.1]; rfl
      · intro i e he
        by_cases hi : i < es.length
        · rw [List.getElem?_append_left hi] at he
          rw [List.getElem?_append_left (by rw [a5'.1]; exact hi)]
          exact a5'.2 i e he
        · have hi2 : i = es.length := by
            have := (List.getElem?_eq_some_iff.mp he).1
            rw [List.length_append] at this
            simp only [List.length_singleton] at this
            omega
          subst hi2
          rw [eg] at he
          cases he
          exact ⟨t, by rw [List.getElem?_append_right (by rw [a5'.1]; exact Nat.le_refl _), a5'.1, Nat.sub_self]; rfl⟩
      · intro i e he
        by_cases hi : i < es.length
        · rw [List.getElem?_append_left hi] at he
          exact a8.ok i e he
        · have hi2 : i = es.length := by
            have := (List.getElem?_eq_some_iff.mp he).1
            rw [List.length_append] at this
            simp only [List.length_singleton] at this
            omega
          subst hi2
          rw [eg] at he
          cases he
          exact ok1
      · rw [List.nodup_append]
        exact ⟨a8.nd, by simp, fun x hx y hy => by rw [List.mem_singleton] at hy; rw [hy]; exact fun z => hnew (z ▸ hx)⟩
      · intro i hi
        rcases List.mem_append.mp hi with hi | hi
        · exact a8.fr i hi
        · rw [List.mem_singleton] at hi
          exact hfr i (congrArg Prod.fst hi).symm (congrArg Prod.snd hi).symm
      · rw [List.length_append]; exact hlen
end
end L2.Bk
end
section
set_option Elab.async false
set_option linter.all false
set_option maxRecDepth 100000
set_option maxHeartbeats 4000000
namespace L2.Bk
open L2.My PySem PySem.Spec PyProof.Rows
/-- the entry of the next fresh one -/
def freshE (es : List Ent) : Ent := ("fresh", [.inl (cntF es : Nat)])
def spFresh (P : Program) (w : World) (C : Addr) : Sp := fun vs H Q _ => ∃ B es, vs = [.ref B.b] ∧ BookAt P w H C B es ∧ es.length < 30000 ∧ ∀ H', BL B.foot H H' → BookAt P w H' C B (es ++ [freshE es]) → Q (.int (es.length : Nat)) H'
inductive DueR where
  | kind
  | parts
  | lets (e : Ent)
/-- what is due of what is put in -/
inductive Due (H : Hp) (n : Nat) : V → V → DueR → Prop where
  | kind {kv pv : V} {t : String} (ht : ThT H kv t) (hk : ∀ z, kv = .str z → PyData.strOk z = true ∧ z ∉ putK9) : Due H n kv pv .kind
  | parts {z : Str} {pv : V} (hz : z ∈ putK9) (hf : fitsV H n z pv false) : Due H n (.str z) pv .parts
  | lets {z : Str} {a : Addr} {ks : List Key} (hz : z ∈ putK9) (ha : H a = some (.tup (ks.map kV))) (hp : PtOk H (ks.map kV)) (hf : fitsT n z (ks.map kV) = true) : Due H n (.str z) (.ref a) (.lets (z, ks))
def spPut (P : Program) (w : World) (C C0 C1 : Addr) : Sp := fun vs H Q E => ∃ B es kv pv d, vs = [.ref B.b, kv, pv] ∧ BookAt P w H C B es ∧ Due H es.length kv pv d ∧ (match d with
  | .kind => ∀ H', Same H H' → E (.ref C0) none H'
  | .parts => ∀ H', Same H H' → E (.ref C1) none H'
  | .lets e => es.length < 30000 ∧ (∀ i, numE es e = some i → ∀ H', Same H H' → Q (.int (i : Nat)) H') ∧ (numE es e = none → ∀ H', BL B.foot H H' → BookAt P w H' C B (es ++ [e]) → Q (.int (es.length : Nat)) H'))
theorem cntF_snoc (es : List Ent) (e : Ent) : cntF (es ++ [e]) = cntF es + if e.1 = ("fresh" : Str) then 1 else 0 := by
  unfold cntF
  rw [List.countP_append]
  by_cases h : e.1 = ("fresh" : Str)
  · simp [h]
  · simp [h]
theorem below_all {n : Nat} {ks : List Key} (h : (ks.map kV).all (belowV (n : Nat)) = true) : ∃ is : List Int, ks = is.map .inl ∧ ∀ i ∈ is, 0 ≤ i ∧ i < n := by
  induction ks with
  | nil => exact ⟨[], rfl, fun i hi => nomatch hi⟩
  | cons k r ih =>
    rw [List.map_cons, List.all_cons, Bool.and_eq_true] at h
    obtain ⟨is, rfl, hi⟩ := ih h.2
    cases k with
    | inl i =>
      have q : 0 ≤ i ∧ i < (n : Int) := of_decide_eq_true h.1
      refine ⟨i :: is, rfl, fun j hj => ?_⟩
      rcases List.mem_cons.mp hj with rfl | hj
      · exact q
      · exact hi j hj
    | inr x => exact nomatch h.1
theorem fits_ok {n : Nat} {z : Str} {ks : List Key} (hz : z ∈ putK9) (h : fitsT n z (ks.map kV) = true) : Ok1 n (z, ks) := by
  unfold fitsT at h
  by_cases e1 : z = "name"
  · rw [if_pos e1] at h
    subst e1
    match ks, h with
    | [.inr x], h => exact .name x h
    | [.inl i], h => exact nomatch h
  rw [if_neg e1] at h
  by_cases e2 : z = "number"
  · rw [if_pos e2] at h
    subst e2
    match ks, h with
    | [.inl i], h =>
      have q : 0 ≤ i ∧ i < 1000000000000 := of_decide_eq_true h
      exact .num i q.1 (by omega)
    | [.inr x], h => exact nomatch h
  rw [if_neg e2, Bool.and_eq_true] at h
  obtain ⟨is, rfl, hi⟩ := below_all h.2
  rw [List.length_map, List.length_map] at h
  by_cases e3 : z = "row"
  · rw [if_pos e3] at h
    subst e3
    exact .row is (of_decide_eq_true h.1) hi
  · rw [if_neg e3] at h
    exact .parts z is (of_decide_eq_true h.1) hi
theorem put_not_fresh : ∀ z ∈ putK9, z ≠ ("fresh" : Str) := by decide +kernel
/-- the constant PUT_KINDS -/
structure PutC (K : PySem.W.Frag) (mg : Str → Option Value) where
  a : Addr
  g : mg "PUT_KINDS" = some (.ref a)
  at_ : ∀ H, SqT K H a (putK9.map .str)
theorem dp_strs {K : PySem.W.Frag} {H : Hp} : ∀ xs : List Str, DpAll K H (xs.map .str) (xs.map .str)
  | [] => .nil
  | x :: r => .cons (.str x) (dp_strs r)
theorem any_strs (x : Str) (xs : List Str) : ((xs.map PyData.str).any fun z => PyData.eqv z (.str x)) = decide (x ∈ xs) := by
  rw [List.any_map, Bool.eq_iff_iff, List.any_eq_true, decide_eq_true_eq]
  constructor
  · rintro ⟨y, hy, h⟩
    have h : PyData.eqv (.str y) (.str x) = true := h
    rw [eqv_str, decide_eq_true_eq] at h
    exact h ▸ hy
  · intro h
    refine ⟨x, h, ?_⟩
    show PyData.eqv (.str x) (.str x) = true
    rw [eqv_str]; exact decide_eq_true rfl
theorem shaped_put : SeqAt.shaped (.tuple (putK9.map .str)) = true := by decide +kernel
section
variable {P : Program} {w : World} {K : PySem.W.Frag} {mg : Str → Option Value} {base : Heap} {C C0 C1 C2 C3 : Addr}
theorem putF_cnt {B : BP} {n m : Int} : putF "_fresh_count" (.int m) (fieldsB B n) = fieldsB B m := rfl
theorem scFresh : FnScope ["self"] ["self"] (defScope (mth 3)) := ⟨rfl, rfl, rfl, by decide +kernel, rfl, by decide +kernel, by decide +kernel⟩
theorem ok_fresh {f fP : Addr} {fd fdP : FuncData} {k : Nat} (F : Fun K "fresh" "Book.fresh" (mth 3) f fd) (c : BkC K C)
    (GP : FnOk P w K mg base CX0 (k + 2) fP fdP ["self", "kind", "parts"] (spPutNew P w C)) (mP : Meth K C "_put_new" fP) (bP : Binds K fdP ["self", "kind", "parts"] []) : FnOk P w K mg base CX0 (k + 3) f fd ["self"] (spFresh P w C) := by
  refine F.ok scFresh (fun vs H Q E h => ?_) (fun cdv A outer s H vs Q E hr h => ?_)
  · obtain ⟨B, es, rfl, _⟩ := h
    rfl
  · obtain ⟨B, es, rfl, hB, hl, q⟩ := h
    refine ⟨_, pss_cons (ps_fldaug (pv 0) pe_int in_add) (pss_one (ps_ret (pe_meth (pv 0) c.cls mP GP hr bP .nil pass0 (pa_cons pe_str (pa_cons (pe_tup (pa_cons (pe_op op_sub (pe_fld (pv 0) rfl) pe_int) pa_nil)) pa_nil))))), ?_⟩
    refine ⟨_, rfl, _, _, _, _, _, rfl, hB.ins, c.cls, c.na _ (by simp), rfl, ?_⟩
    refine ⟨_, _, rfl, rfl, ?_⟩
    refine ⟨_, _, hB.ins, by show 5 < 1000; decide, ?_⟩
    rw [putF_cnt]
    generalize hH1 : upd H B.b (.ins C B.dx (fieldsB B ((cntF es : Nat) + 1))) = H1
    have b1 : H1 B.b = some (.ins C B.dx (fieldsB B ((cntF es : Nat) + 1))) := by rw [← hH1, upd_same]
    have k1 : ∀ x o, x ≠ B.b → H x = some o → H1 x = some o := fun x o hx e => by rw [← hH1, upd_ne hx]; exact e
    refine ⟨_, rfl, B.b, B.dx, _, rfl, b1, rfl, ?_⟩
    refine ⟨_, rfl, _, _, _, _, _, rfl, b1, c.cls, c.na _ (by simp), rfl, ?_⟩
    refine ⟨_, _, rfl, rfl, by show 1 ≤ sizeLine; decide, fun p np => ?_⟩
    have es1 : ((cntF es : Nat) : Int) + 1 - 1 = (cntF es : Nat) := by omega
    show spPutNew P w C [.ref B.b, .str "fresh", .ref p] (upd H1 p (.tup [.int (((cntF es : Nat) : Int) + 1 - 1)])) Q E0
    rw [es1]
    have s2 : Same H1 (upd H1 p (.tup [.int (cntF es : Nat)])) := same_upd np
    generalize hH2 : upd H1 p (.tup [.int (cntF es : Nat)]) = H2 at s2
    have hB2 : BookN P w H2 C B ((cntF es : Nat) + 1) es := by
      obtain ⟨a1, a2, ⟨ps, a3, a3'⟩, ⟨ds, a4, a4'⟩, ⟨kvs, ⟨a5, a6⟩, a5'⟩, a7, a8, a9⟩ := hB
      have t1 : ∀ b xs, H b = some (.tup xs) → H2 b = some (.tup xs) := fun b xs e => s2 _ _ (k1 _ _ (ne_of e a1 (fun z => nomatch z)) e)
      exact ⟨s2 _ _ b1, s2 _ _ (k1 _ _ (ne_of a2 a1 (fun z => nomatch z)) a2), ⟨ps, s2 _ _ (k1 _ _ (ne_of a3 a1 (fun z => nomatch z)) a3), Paired.mapP a3' fun _ _ z => t1 _ _ z⟩,
        ⟨ds, s2 _ _ (k1 _ _ (ne_of a4 a1 (fun z => nomatch z)) a4), a4'⟩, ⟨kvs, ⟨s2 _ _ (k1 _ _ (ne_of a5 a1 (fun z => nomatch z)) a5), fun x hx => (a6 x hx).keep t1⟩, a5'⟩, a7,
        ⟨a8.ok, a8.nd, fun i hi => by have := a8.fr i hi; omega⟩, a9⟩
    refine ⟨B, (cntF es : Nat) + 1, es, "fresh", p, [.inl (cntF es : Nat)], rfl, hB2, by rw [← hH2, upd_same]; rfl, .fresh _ (by omega), ?_, ?_, hl, fun H' bl hB' => q H' ?_ ?_⟩
    · intro hm
      have := hB.wf.fr _ hm
      omega
    · rintro i _ e
      cases e
      omega
    · intro x o hx e
      exact bl _ _ hx (s2 _ _ (k1 _ _ (fun z => hx (by rw [z]; simp [BP.foot])) e))
    · have e2 : ((cntF (es ++ [freshE es]) : Nat) : Int) = (cntF es : Nat) + 1 := by
        rw [cntF_snoc, if_pos (show (freshE es).1 = ("fresh" : Str) from rfl)]; omega
      show BookN P w H' C B (cntF (es ++ [freshE es]) : Nat) (es ++ [freshE es])
      rw [e2]
      exact hB'
theorem scPut : FnScope ["self", "kind", "parts", "number"] ["self", "kind", "parts"] (defScope (mth 2)) := ⟨rfl, rfl, rfl, by decide +kernel, rfl, by decide +kernel, by decide +kernel⟩
theorem ok_put {f fF fN fP : Addr} {fd fdF fdN fdP : FuncData} {k : Nat} (F : Fun K "put" "Book.put" (mth 2) f fd) (T : PlTxt mg) (c : BkC K C) (N : NoTxt P w K mg base C0 C1 C2 C3) (PC : PutC K mg)
    (GF : FnOk P w K mg base CX0 (k + 3) fF fdF ["self", "kind", "parts"] (spFits P w C)) (mF : Meth K C "_fits" fF) (bF : Binds K fdF ["self", "kind", "parts"] [])
    (GN : FnOk P w K mg base CX0 (k + 1) fN fdN ["self", "kind", "parts"] (spNumOf P w C)) (mN : Meth K C "number_of" fN) (bN : Binds K fdN ["self", "kind", "parts"] [])
    (GP : FnOk P w K mg base CX0 (k + 2) fP fdP ["self", "kind", "parts"] (spPutNew P w C)) (mP : Meth K C "_put_new" fP) (bP : Binds K fdP ["self", "kind", "parts"] []) : FnOk P w K mg base (CX P w) (k + 4) f fd ["self", "kind", "parts"] (spPut P w C C0 C1) := by
  refine F.okX scPut (fun vs H Q E h => ?_) (fun cdv A outer s H vs Q E hr h => ?_)
  · obtain ⟨B, es, kv, pv, d, rfl, _⟩ := h
    rfl
  · obtain ⟨B, es, kv, pvv, d, rfl, hB, hd, q⟩ := h
    have tk := takes_of (X := cxOf (CX P w) P w K mg base ["self", "kind", "parts", "number"] "Book.put" (defScope (mth 2)) f cdv A outer s H E) (E := E) rfl rfl rfl rfl
    refine ⟨_, pss_cons (ps_if (pt_or (pt_not (pt_val (pe_callB call_isTh (by rfl) T.isi (by decide +kernel) (pa_cons (pv 1) (pa_cons (pe_bltn (v := .ty "str") (u := .type "str") (by rfl) T.str_ (by decide +kernel) rfl) pa_nil)))))
        (pw_or1 (pt_cmpR (op_notInTD (u65 hr)) (pv 1) (pe_glob (v := .ref PC.a) (by rfl) PC.g rfl) (by rfl)))) (pss_one (ps_raise rfl tk (pmk_0 N.i0 rfl (hr.mono (by omega)) (by rfl) N.g0))) pss_nil)
      (pss_cons (ps_if (pt_not (pt_val (pe_meth (pv 0) c.cls mF GF (hr.mono (by omega)) bF .nil pass0 (pa_cons (pv 1) (pa_cons (pv 2) pa_nil))))) (pss_one (ps_raise rfl tk (pmk_0 N.i1 rfl (hr.mono (by omega)) (by rfl) N.g1))) pss_nil)
      (pss_cons (ps_set (i := 3) scPut.nd rfl (Or.inl rfl) (pe_meth (pv 0) c.cls mN GN (hr.mono (by omega)) bN .nil pass0 (pa_cons (pv 1) (pa_cons (pv 2) pa_nil))))
      (pss_one (ps_ret (pe_ifExp (pt_cmpR op_isN1 (pv 3) pe_non (nomark _)) (pe_meth (pv 0) c.cls mP GP (hr.mono (by omega)) bP .nil pass0 (pa_cons (pv 1) (pa_cons (pv 2) pa_nil))) (pv 3)))))), ?_⟩
    refine ⟨_, rfl, kv, "str", ?_⟩
    cases hd with
    | @kind _ _ t ht hk =>
      refine ⟨t, rfl, ht, by decide, _, rfl, ?_⟩
      cases ht with
      | str x =>
        refine iteF ?_
        obtain ⟨so, hn⟩ := hk x rfl
        refine ⟨_, rfl, .str x, putK9.map .str, .str x, .tup (PC.at_ _) (dp_strs _), shaped_str so, shaped_put, _, rfl, ?_⟩
        rw [any_strs, decide_eq_false hn]
        exact iteT ⟨fun _ h => h, q H (Same.refl H)⟩
      | int i => exact iteT (iteT ⟨fun _ h => h, q H (Same.refl H)⟩)
      | bl b => exact iteT (iteT ⟨fun _ h => h, q H (Same.refl H)⟩)
      | non => exact iteT (iteT ⟨fun _ h => h, q H (Same.refl H)⟩)
      | lst h => exact iteT (iteT ⟨fun _ h => h, q H (Same.refl H)⟩)
      | tup h => exact iteT (iteT ⟨fun _ h => h, q H (Same.refl H)⟩)
      | dct h => exact iteT (iteT ⟨fun _ h => h, q H (Same.refl H)⟩)
    | @parts z _ hz hf =>
      refine ⟨"str", rfl, .str z, by decide, _, rfl, iteF ?_⟩
      have so : PyData.strOk z = true := (show ∀ z ∈ putK9, PyData.strOk z = true by decide +kernel) z hz
      refine ⟨_, rfl, .str z, putK9.map .str, .str z, .tup (PC.at_ _) (dp_strs _), shaped_str so, shaped_put, _, rfl, ?_⟩
      rw [any_strs, decide_eq_true hz]
      refine iteF ?_
      refine ⟨_, rfl, B.b, B.dx, _, rfl, hB.ins, rfl, _, rfl, _, rfl, ?_⟩
      refine ⟨B, _, es, z, _, false, rfl, hB, hz, hf, fun H1 s1 => ⟨_, rfl, ?_⟩⟩
      exact iteT ⟨fun a ha => s1.free ha, q H1 s1⟩
    | @lets z a ks hz ha hp hf =>
      refine ⟨"str", rfl, .str z, by decide, _, rfl, iteF ?_⟩
      have so : PyData.strOk z = true := (show ∀ z ∈ putK9, PyData.strOk z = true by decide +kernel) z hz
      refine ⟨_, rfl, .str z, putK9.map .str, .str z, .tup (PC.at_ _) (dp_strs _), shaped_str so, shaped_put, _, rfl, ?_⟩
      rw [any_strs, decide_eq_true hz]
      refine iteF ?_
      refine ⟨_, rfl, B.b, B.dx, _, rfl, hB.ins, rfl, _, rfl, _, rfl, ?_⟩
      refine ⟨B, _, es, z, _, true, rfl, hB, hz, .inl ⟨a, _, rfl, ha, hp, hf.symm⟩, fun H1 s1 => ⟨_, rfl, iteF ?_⟩⟩
      have hB1 := hB.same s1
      refine ⟨_, rfl, B.b, B.dx, _, rfl, hB1.ins, rfl, _, rfl, _, rfl, ?_⟩
      refine ⟨B, _, es, z, a, ks, rfl, hB1, s1 _ _ ha, fun H2 s2 => ?_⟩
      have hB2 := hB1.same s2
      obtain ⟨hl, q1, q2⟩ := q
      refine ⟨_, rfl, rfl, _, rfl, ?_⟩
      cases hn : numE es (z, ks) with
      | some i => exact iteF ⟨_, rfl, q1 i hn H2 (s1.trans s2)⟩
      | none =>
        refine iteT ?_
        refine ⟨_, rfl, B.b, B.dx, _, rfl, hB2.ins, rfl, _, rfl, _, rfl, ?_⟩
        refine ⟨B, _, es, z, a, ks, rfl, hB2, s2 _ _ (s1 _ _ ha), fits_ok hz hf, numE_not hn, fun i e => absurd e (put_not_fresh z hz), hl, fun H3 bl hB3 => q2 hn H3 (BL.trans (.same (s1.trans s2)) bl) ?_⟩
        show BookN P w H3 C B (cntF (es ++ [(z, ks)]) : Nat) (es ++ [(z, ks)])
        rw [cntF_snoc, if_neg (put_not_fresh z hz)]
        exact hB3
end
end L2.Bk
end
section
set_option Elab.async false
set_option linter.all false
set_option maxRecDepth 100000
set_option maxHeartbeats 4000000
namespace L2.Bk
open L2.My PySem PySem.Spec PyProof.Rows
def spInit (P : Program) (w : World) (C : Addr) : Sp := fun vs H Q _ => ∃ x dx, vs = [.ref x] ∧ H x = some (.ins C dx []) ∧ ∀ H' B, B.b = x → B.dx = dx → BL [x] H H' → (∀ p ∈ [B.lk, B.lp, B.ld, B.dn], H p = none) → BookAt P w H' C B [] → Q .non H'
section
variable {P : Program} {w : World} {K : PySem.W.Frag} {mg : Str → Option Value} {base : Heap} {C C0 C1 C2 C3 : Addr}
theorem scInit : FnScope ["self"] ["self"] (defScope (mth 0)) := ⟨rfl, rfl, rfl, by decide +kernel, rfl, by decide +kernel, by decide +kernel⟩
theorem ok_init {f : Addr} {fd : FuncData} {k : Nat} (F : Fun K "__init__" "Book.__init__" (mth 0) f fd) (c : BkC K C) : FnOk P w K mg base CX0 (k + 1) f fd ["self"] (spInit P w C) := by
  refine F.ok scInit (fun vs H Q E h => ?_) (fun cdv A outer s H vs Q E hr h => ?_)
  · obtain ⟨x, dx, rfl, _⟩ := h
    rfl
  · obtain ⟨x, dx, rfl, hx, q⟩ := h
    refine ⟨_, pss_cons (ps_fld (pv 0) (pe_lst pa_nil) rfl) (pss_cons (ps_fld (pv 0) (pe_lst pa_nil) rfl) (pss_cons (ps_fld (pv 0) (pe_lst pa_nil) rfl) (pss_cons (ps_fld (pv 0) pe_nnew rfl) (pss_one (ps_fld (pv 0) pe_int rfl))))), ?_⟩
    refine ⟨by show 0 ≤ sizeLine; decide, fun lk nlk => ?_⟩
    have s1 : Same H (upd H lk (.lst [])) := same_upd nlk
    refine ⟨_, rfl, x, C, dx, _, rfl, s1 _ _ hx, c.cls, c.na _ (by simp), by show 0 < 1000; decide, ?_⟩
    generalize hG1 : upd (upd H lk (.lst [])) x (.ins C dx (putF "_kinds" (.ref lk) [])) = G1
    have xlk : x ≠ lk := ne_of_none hx nlk
    have g1x : G1 x = some (.ins C dx (putF "_kinds" (.ref lk) [])) := by rw [← hG1, upd_same]
    have g1k : G1 lk = some (.lst []) := by rw [← hG1, upd_ne xlk.symm, upd_same]
    have b1 : BL [x] H G1 := by rw [← hG1]; exact BL.trans (.same s1) (.upd (by simp))
    have fr : ∀ {G : Hp} {p : Addr}, BL [x] H G → G x ≠ none → G p = none → H p = none := fun {G p} b gx e => by
      cases q : H p with
      | none => rfl
      | some o =>
        by_cases hp : p = x
        · rw [hp] at e; exact absurd e gx
        · rw [b p o (by simp [hp]) q] at e; cases e
    refine ⟨by show 0 ≤ sizeLine; decide, fun lp nlp => ?_⟩
    have s2 : Same G1 (upd G1 lp (.lst [])) := same_upd nlp
    refine ⟨_, rfl, x, C, dx, _, rfl, s2 _ _ g1x, c.cls, c.na _ (by simp), by show 1 < 1000; decide, ?_⟩
    generalize hG2 : upd (upd G1 lp (.lst [])) x (.ins C dx (putF "_parts" (.ref lp) (putF "_kinds" (.ref lk) []))) = G2
    have xlp : x ≠ lp := ne_of_none g1x nlp
    have klp : lk ≠ lp := ne_of_none g1k nlp
    have g2x : G2 x = some (.ins C dx (putF "_parts" (.ref lp) (putF "_kinds" (.ref lk) []))) := by rw [← hG2, upd_same]
    have g2k : G2 lk = some (.lst []) := by rw [← hG2, upd_ne xlk.symm]; exact s2 _ _ g1k
    have g2p : G2 lp = some (.lst []) := by rw [← hG2, upd_ne xlp.symm, upd_same]
    have b2 : BL [x] H G2 := b1.trans (by rw [← hG2]; exact BL.trans (.same s2) (.upd (by simp)))
    refine ⟨by show 0 ≤ sizeLine; decide, fun ld nld => ?_⟩
    have s3 : Same G2 (upd G2 ld (.lst [])) := same_upd nld
    refine ⟨_, rfl, x, C, dx, _, rfl, s3 _ _ g2x, c.cls, c.na _ (by simp), by show 2 < 1000; decide, ?_⟩
    generalize hG3 : upd (upd G2 ld (.lst [])) x (.ins C dx (putF "_depths" (.ref ld) (putF "_parts" (.ref lp) (putF "_kinds" (.ref lk) [])))) = G3
    have xld : x ≠ ld := ne_of_none g2x nld
    have g3x : G3 x = some (.ins C dx (putF "_depths" (.ref ld) (putF "_parts" (.ref lp) (putF "_kinds" (.ref lk) [])))) := by rw [← hG3, upd_same]
    have g3k : G3 lk = some (.lst []) := by rw [← hG3, upd_ne xlk.symm]; exact s3 _ _ g2k
    have g3p : G3 lp = some (.lst []) := by rw [← hG3, upd_ne xlp.symm]; exact s3 _ _ g2p
    have g3d : G3 ld = some (.lst []) := by rw [← hG3, upd_ne xld.symm, upd_same]
    have b3 : BL [x] H G3 := b2.trans (by rw [← hG3]; exact BL.trans (.same s3) (.upd (by simp)))
    refine fun dn ndn => ?_
    have s4 : Same G3 (upd G3 dn (NumO P w dn [])) := same_upd ndn
    refine ⟨_, rfl, x, C, dx, _, rfl, s4 _ _ g3x, c.cls, c.na _ (by simp), by show 3 < 1000; decide, ?_⟩
    have xdn : x ≠ dn := ne_of_none g3x ndn
    generalize hG4 : upd (upd G3 dn (NumO P w dn [])) x (.ins C dx (putF "_numbers" (.ref dn) (putF "_depths" (.ref ld) (putF "_parts" (.ref lp) (putF "_kinds" (.ref lk) []))))) = G4
    have g4x : G4 x = some (.ins C dx (putF "_numbers" (.ref dn) (putF "_depths" (.ref ld) (putF "_parts" (.ref lp) (putF "_kinds" (.ref lk) []))))) := by rw [← hG4, upd_same]
    have g4k : G4 lk = some (.lst []) := by rw [← hG4, upd_ne xlk.symm]; exact s4 _ _ g3k
    have g4p : G4 lp = some (.lst []) := by rw [← hG4, upd_ne xlp.symm]; exact s4 _ _ g3p
    have g4d : G4 ld = some (.lst []) := by rw [← hG4, upd_ne xld.symm]; exact s4 _ _ g3d
    have g4n : G4 dn = some (NumO P w dn []) := by rw [← hG4, upd_ne xdn.symm, upd_same]
    have b4 : BL [x] H G4 := b3.trans (by rw [← hG4]; exact BL.trans (.same s4) (.upd (by simp)))
    have e5 : (upd (upd G3 dn (NumO P w dn [])) x (.ins C dx (putF "_numbers" (.ref dn) (putF "_depths" (.ref ld) (putF "_parts" (.ref lp) (putF "_kinds" (.ref lk) [])))))) = G4 := hG4
    refine ⟨_, rfl, x, C, dx, _, rfl, by rw [upd_same], c.cls, c.na _ (by simp), by show 4 < 1000; decide, ?_⟩
    have e6 : upd (upd (upd G3 dn (NumO P w dn [])) x (.ins C dx (putF "_numbers" (.ref dn) (putF "_depths" (.ref ld) (putF "_parts" (.ref lp) (putF "_kinds" (.ref lk) [])))))) x (.ins C dx (fieldsB ⟨x, dx, lk, lp, ld, dn⟩ 0)) = upd G4 x (.ins C dx (fieldsB ⟨x, dx, lk, lp, ld, dn⟩ 0)) := by rw [e5]
    show Q .non (upd (upd (upd G3 dn (NumO P w dn [])) x (.ins C dx (putF "_numbers" (.ref dn) (putF "_depths" (.ref ld) (putF "_parts" (.ref lp) (putF "_kinds" (.ref lk) [])))))) x (.ins C dx (fieldsB ⟨x, dx, lk, lp, ld, dn⟩ 0)))
    rw [e6]
    have up : ∀ y o, y ≠ x → G4 y = some o → (upd G4 x (.ins C dx (fieldsB ⟨x, dx, lk, lp, ld, dn⟩ 0))) y = some o := fun y o hy e => by rw [upd_ne hy]; exact e
    refine q _ ⟨x, dx, lk, lp, ld, dn⟩ rfl rfl (b4.trans (.upd (by simp))) (fun p hp => ?_) ⟨upd_same, up _ _ xlk.symm g4k, ⟨[], up _ _ xlp.symm g4p, .nil⟩, ⟨[], up _ _ xld.symm g4d, rfl, fun i e he => (by simp at he)⟩,
      ⟨[], ⟨up _ _ xdn.symm g4n, fun x hx => nomatch hx⟩, rfl, fun i e he => (by simp at he)⟩, ⟨klp, ne_of_none g2k nld, ne_of_none g2p nld⟩, ⟨fun i e he => (by simp at he), List.nodup_nil, fun i hi => nomatch hi⟩, Nat.zero_le _⟩
    simp only [List.mem_cons, List.not_mem_nil, or_false] at hp
    rcases hp with rfl | rfl | rfl | rfl
    · exact nlk
    · exact fr b1 (by rw [g1x]; simp) nlp
    · exact fr b2 (by rw [g2x]; simp) nld
    · exact fr b3 (by rw [g3x]; simp) ndn
end
end L2.Bk
end
section
set_option Elab.async false
set_option linter.all false
set_option maxRecDepth 100000
set_option maxHeartbeats 4000000
namespace L2.Bk
open L2.My PySem PySem.Spec PyProof.Rows
theorem yes_of {σ : St} {H : Hp} {f g : Hp → Prop} (h : f H) : tYes σ H fun b H3 => if b = true then f H3 else g H3 := by
  show ite (true = true) (f H) (g H)
  rw [if_pos rfl]
  exact h
def spCopy (P : Program) (w : World) (C : Addr) : Sp := fun vs H Q _ => ∃ B es, vs = [.ref B.b] ∧ BookAt P w H C B es ∧ ∀ H' B', Same H H' → (∀ p ∈ B'.foot, H p = none) → BookAt P w H' C B' es → Q (.ref B'.b) H'
section
variable {P : Program} {w : World} {K : PySem.W.Frag} {mg : Str → Option Value} {base : Heap} {C C0 C1 C2 C3 : Addr}
theorem scCopy : FnScope ["self", "other", "key"] ["self"] (defScope (mth 11)) := ⟨rfl, rfl, rfl, by decide +kernel, rfl, by decide +kernel, by decide +kernel⟩
theorem ok_copy {f fI : Addr} {fd fdI : FuncData} {k : Nat} (F : Fun K "copy" "Book.copy" (mth 11) f fd) (T : PlTxt mg) (c : BkC K C) (gB : mg "Book" = some (.ref C)) (M : Mk K C fI)
    (GI : FnOk P w K mg base CX0 (k + 1) fI fdI ["self"] (spInit P w C)) (bI : Binds K fdI ["self"] []) : FnOk P w K mg base CX0 (k + 3) f fd ["self"] (spCopy P w C) := by
  refine F.ok scCopy (fun vs H Q E h => ?_) (fun cdv A outer s H vs Q E hr h => ?_)
  · obtain ⟨B, es, rfl, _⟩ := h
    rfl
  · obtain ⟨B, es, rfl, hB, q⟩ := h
    refine ⟨_, pss_cons (ps_set (i := 1) scCopy.nd rfl (Or.inl rfl) (pe_make0 M GI hr (by rfl) gB bI .nil pass0))
      (pss_cons (ps_fld (pv 1) (pe_callTy call_list_of (by rfl) T.list_ (by decide +kernel) (pa_cons (pe_fld (pv 0) rfl) pa_nil)) rfl)
      (pss_cons (ps_fld (pv 1) (pe_callTy call_list_of (by rfl) T.list_ (by decide +kernel) (pa_cons (pe_fld (pv 0) rfl) pa_nil)) rfl)
      (pss_cons (ps_fld (pv 1) (pe_callTy call_list_of (by rfl) T.list_ (by decide +kernel) (pa_cons (pe_fld (pv 0) rfl) pa_nil)) rfl)
      (pss_cons (ps_fld (pv 1) (pe_lock (pe_dcN (tv := tNIx P w (tFld K (tVar 0) "_numbers") (tVar 2)) (own := [("key", 2)]) (g := gName 2) (u2 hr) rfl scCopy.nd (pi_keysN (pe_fld (pv 0) rfl))
          (blkOk_by (N := ["self", "other", "key"]) (sc := defScope (mth 11)) (by decide +kernel)) (fun _ _ _ _ _ => pg_name (i := 2) scCopy.nd rfl (Or.inl rfl)) (fun _ _ _ _ _ => pts_nil)
          (fun _ _ _ _ _ => pv 2) (fun _ _ _ _ _ => pe_nix (u2 hr) (pe_fld (pv 0) rfl) (pv 2) (fun _ _ => rfl)))) rfl)
      (pss_cons (ps_fld (pv 1) (pe_fld (pv 0) rfl) rfl)
      (pss_one (ps_ret (pv 1)))))))), ?_⟩
    obtain ⟨a1, a2, ⟨ps, a3, a3'⟩, ⟨ds, a4, a4'⟩, ⟨kvs, ⟨a5, a6⟩, a5'⟩, a7, a8, a9⟩ := hB
    intro x dx nx ndx hne
    refine ⟨x, dx, rfl, upd_same, ?_⟩
    rintro G1 ⟨b0, dx0, lk0, lp0, ld0, dn0⟩ rfl rfl bl0 hp0 hB0
    refine ⟨rfl, ?_⟩
    have s1 : Same H G1 := fun y o e => by
      have h1 : y ≠ b0 := ne_of_none e nx
      have h2 : y ≠ dx0 := ne_of_none e ndx
      exact bl0 y o (by simp [h1]) (by rw [upd_ne h1, upd_ne h2]; exact e)
    have g1x : G1 b0 = some (.ins C dx0 (fieldsB ⟨b0, dx0, lk0, lp0, ld0, dn0⟩ 0)) := hB0.ins
    -- setting a field of the new one
    have keep : ∀ (G : Hp) (o : HO), Same H G → Same H (upd G b0 o) := fun G o s y u e => by
      rw [upd_ne (ne_of_none e nx)]; exact s _ _ e
    refine ⟨_, rfl, _, _, _, _, _, rfl, s1 _ _ a1, c.cls, c.na _ (by simp), rfl, B.lk, _, rfl, .inl (.of (s1 _ _ a2)), fun l1 n1 => ?_⟩
    have t1 := same_upd (o := .lst (es.map fun e => V.str e.1)) n1
    refine ⟨_, rfl, b0, C, dx0, _, rfl, t1 _ _ g1x, c.cls, c.na _ (by simp), by show 5 < 1000; decide, ?_⟩
    show tNext _ _ (upd (upd G1 l1 (.lst (es.map fun e => V.str e.1))) b0 (.ins C dx0 (fieldsB ⟨b0, dx0, l1, lp0, ld0, dn0⟩ 0)))
    have b1 : b0 ≠ l1 := ne_of_none g1x n1
    generalize hG2 : upd (upd G1 l1 (.lst (es.map fun e => V.str e.1))) b0 (.ins C dx0 (fieldsB ⟨b0, dx0, l1, lp0, ld0, dn0⟩ 0)) = G2
    have s2 : Same H G2 := by rw [← hG2]; exact keep _ _ (s1.trans t1)
    have g2x : G2 b0 = some (.ins C dx0 (fieldsB ⟨b0, dx0, l1, lp0, ld0, dn0⟩ 0)) := by rw [← hG2, upd_same]
    have g2k : G2 l1 = some (.lst (es.map fun e => V.str e.1)) := by rw [← hG2, upd_ne b1.symm, upd_same]
    refine ⟨_, rfl, _, _, _, _, _, rfl, s2 _ _ a1, c.cls, c.na _ (by simp), rfl, B.lp, _, rfl, .inl (.of (s2 _ _ a3)), fun l2 n2 => ?_⟩
    have t2 := same_upd (o := .lst (ps.map V.ref)) n2
    refine ⟨_, rfl, b0, C, dx0, _, rfl, t2 _ _ g2x, c.cls, c.na _ (by simp), by show 5 < 1000; decide, ?_⟩
    show tNext _ _ (upd (upd G2 l2 (.lst (ps.map V.ref))) b0 (.ins C dx0 (fieldsB ⟨b0, dx0, l1, l2, ld0, dn0⟩ 0)))
    have b2 : b0 ≠ l2 := ne_of_none g2x n2
    generalize hG3 : upd (upd G2 l2 (.lst (ps.map V.ref))) b0 (.ins C dx0 (fieldsB ⟨b0, dx0, l1, l2, ld0, dn0⟩ 0)) = G3
    have s3 : Same H G3 := by rw [← hG3]; exact keep _ _ (s2.trans t2)
    have g3x : G3 b0 = some (.ins C dx0 (fieldsB ⟨b0, dx0, l1, l2, ld0, dn0⟩ 0)) := by rw [← hG3, upd_same]
    have g3k : G3 l1 = some (.lst (es.map fun e => V.str e.1)) := by rw [← hG3, upd_ne b1.symm]; exact t2 _ _ g2k
    have g3p : G3 l2 = some (.lst (ps.map V.ref)) := by rw [← hG3, upd_ne b2.symm, upd_same]
    refine ⟨_, rfl, _, _, _, _, _, rfl, s3 _ _ a1, c.cls, c.na _ (by simp), rfl, B.ld, _, rfl, .inl (.of (s3 _ _ a4)), fun l3 n3 => ?_⟩
    have t3 := same_upd (o := .lst (ds.map V.int)) n3
    refine ⟨_, rfl, b0, C, dx0, _, rfl, t3 _ _ g3x, c.cls, c.na _ (by simp), by show 5 < 1000; decide, ?_⟩
    show tNext _ _ (upd (upd G3 l3 (.lst (ds.map V.int))) b0 (.ins C dx0 (fieldsB ⟨b0, dx0, l1, l2, l3, dn0⟩ 0)))
    have b3 : b0 ≠ l3 := ne_of_none g3x n3
    generalize hG4 : upd (upd G3 l3 (.lst (ds.map V.int))) b0 (.ins C dx0 (fieldsB ⟨b0, dx0, l1, l2, l3, dn0⟩ 0)) = G4
    have s4 : Same H G4 := by rw [← hG4]; exact keep _ _ (s3.trans t3)
    have g4x : G4 b0 = some (.ins C dx0 (fieldsB ⟨b0, dx0, l1, l2, l3, dn0⟩ 0)) := by rw [← hG4, upd_same]
    have g4k : G4 l1 = some (.lst (es.map fun e => V.str e.1)) := by rw [← hG4, upd_ne b1.symm]; exact t3 _ _ g3k
    have g4p : G4 l2 = some (.lst (ps.map V.ref)) := by rw [← hG4, upd_ne b2.symm]; exact t3 _ _ g3p
    have g4d : G4 l3 = some (.lst (ds.map V.int)) := by rw [← hG4, upd_ne b3.symm, upd_same]
    -- the dict
    refine ⟨B.dn, NumO P w B.dn kvs, s4 _ _ a5, True.intro, fun od => ?_⟩
    generalize hF : upd G4 B.dn (.frz od (NumO P w B.dn kvs)) = F0
    have fdn : F0 B.dn = some (.frz od (NumO P w B.dn kvs)) := by rw [← hF, upd_same]
    have fk : ∀ y o, y ≠ B.dn → G4 y = some o → F0 y = some o := fun y o hy e => by rw [← hF, upd_ne hy]; exact e
    have idn : B.b ≠ B.dn := ne_of a1 a5 (fun z => nomatch z)
    have f1 := fk _ _ idn (s4 _ _ a1)
    refine ⟨_, rfl, _, _, _, _, _, rfl, f1, c.cls, c.na _ (by simp), rfl, B.dn, od, kvs, rfl, fdn, fun D nD => ?_⟩
    have nDd : D ≠ B.dn := (ne_of_none fdn nD).symm
    have nd : (kvs.map (·.1)).Nodup := by
      have e : kvs.map (·.1) = es := by
        apply List.ext_getElem?
        intro i
        by_cases hi : i < es.length
        · obtain ⟨q', hq'⟩ := a5'.2 i _ (List.getElem?_eq_getElem hi)
          rw [List.getElem?_map, hq', List.getElem?_eq_getElem hi]; rfl
        · rw [List.getElem?_eq_none (by rw [List.length_map, a5'.1]; omega), List.getElem?_eq_none (by omega)]
      rw [e]; exact a8.nd
    have ent : ∀ y ∈ kvs, EntAt F0 y.2.1 y.1 := fun y hy => (a6 y hy).keep fun b xs e => fk _ _ (ne_of e a5 (fun z => nomatch z)) (s4 _ _ e)
    have big : (30001 : Nat) ≤ sizeLine := by decide
    refine ⟨fun i m G => m = kvs.length - i ∧ i ≤ kvs.length ∧ Same F0 G ∧ G D = some (NumO P w D (kvs.take i)), ⟨kvs.length, by omega, Nat.zero_le _, same_upd nD, by rw [upd_same]; rfl⟩, ?_⟩
    rintro i m G ⟨rfl, hi, sG, gD⟩
    by_cases hlt : i < kvs.length
    · refine .inr ⟨⟨sG _ _ fdn, hlt⟩, fun G' => i + 1 ≤ kvs.length ∧ Same F0 G' ∧ G' D = some (NumO P w D (kvs.take (i + 1))), fun G' h => ⟨kvs.length - (i + 1), by omega, rfl, h⟩, ?_⟩
      rintro y G' ⟨rfl, e, qa, v, hk, rfl⟩
      refine ⟨rfl, ?_⟩
      refine yes_of ?_
      have hm := List.mem_of_getElem? hk
      have fv : valN kvs e = some v := by
        have key : ∀ x ∈ kvs, x.1 = e → x = (e, qa, v) := by
          intro z hz hze
          obtain ⟨j, hj⟩ := List.mem_iff_getElem?.mp hz
          have hji : j = i := by
            have h1 : (kvs.map (·.1))[j]? = some e := by rw [List.getElem?_map, hj, Option.map_some, hze]
            have h2 : (kvs.map (·.1))[i]? = some e := by rw [List.getElem?_map, hk]; rfl
            exact (List.getElem?_inj (List.getElem?_eq_some_iff.mp h1).1 nd).mp (h1.trans h2.symm)
          rw [hji, hk] at hj
          exact (Option.some.inj hj).symm
        unfold valN
        cases f : kvs.find? fun x => decide (x.1 = e) with
        | none =>
          rw [List.find?_eq_none] at f
          exact absurd (decide_eq_true rfl) (f _ hm)
        | some z =>
          have hz := List.find?_some f
          have h1 := key z (List.mem_of_find?_eq_some f) (of_decide_eq_true hz)
          rw [h1]; rfl
      have entG : ∀ y ∈ kvs, EntAt G' y.2.1 y.1 := fun y hy => (ent y hy).keep fun b xs e => sG _ _ e
      refine ⟨_, rfl, _, rfl, _, _, _, _, _, rfl, sG _ _ f1, c.cls, c.na _ (by simp), rfl, _, rfl, ?_⟩
      refine ⟨B.dn, qa, e, kvs, v, rfl, rfl, ⟨.inr ⟨od, sG _ _ fdn⟩, entG⟩, entG _ hm, fv, ?_⟩
      refine ⟨kvs.take i, e, qa, rfl, ⟨gD, fun y hy => entG _ (List.mem_of_mem_take hy)⟩, entG _ hm, ?_, ?_, ?_⟩
      · intro hmem
        obtain ⟨z, hz, hze⟩ := List.mem_map.mp hmem
        obtain ⟨j, hj, hjz⟩ := List.mem_iff_getElem.mp hz
        rw [List.length_take] at hj
        rw [List.getElem_take] at hjz
        have h1 : (kvs.map (·.1))[j]? = some e := by rw [List.getElem?_map, List.getElem?_eq_getElem (by omega), hjz, Option.map_some, hze]
        have h2 : (kvs.map (·.1))[i]? = some e := by rw [List.getElem?_map, hk]; rfl
        have := (List.getElem?_inj (List.getElem?_eq_some_iff.mp h1).1 nd).mp (h1.trans h2.symm)
        omega
      · rw [List.length_take, a5'.1]; omega
      · refine ⟨hlt, same_grow (Same.refl _) nD sG, ?_⟩
        show upd G' D (NumO P w D (kvs.take i ++ [(e, qa, v)])) D = _
        rw [upd_same]
        have e7 : kvs.take i ++ [(e, qa, v)] = kvs.take (i + 1) := by
          rw [List.take_add_one, hk]; rfl
        rw [e7]
    · have ei : i = kvs.length := by omega
      subst ei
      refine .inl ⟨⟨sG _ _ fdn, Nat.le_refl _⟩, sG _ _ fdn, ?_⟩
      rw [List.take_length] at gD
      -- the dict is free again
      generalize hG5 : upd G B.dn (NumO P w B.dn kvs) = G5
      have s5 : Same G4 G5 := fun y o e => by
        by_cases hy : y = B.dn
        · rw [hy, s4 _ _ a5] at e
          cases e
          rw [← hG5, hy, upd_same]
        · rw [← hG5, upd_ne hy]
          exact sG _ _ (fk _ _ hy e)
      have g5D : G5 D = some (NumO P w D kvs) := by rw [← hG5, upd_ne nDd]; exact gD
      have h5 : Same H G5 := s4.trans s5
      refine ⟨_, rfl, b0, C, dx0, _, rfl, s5 _ _ g4x, c.cls, c.na _ (by simp), by show 5 < 1000; decide, ?_⟩
      show tNext _ _ (upd G5 b0 (.ins C dx0 (fieldsB ⟨b0, dx0, l1, l2, l3, D⟩ 0)))
      generalize hG6 : upd G5 b0 (.ins C dx0 (fieldsB ⟨b0, dx0, l1, l2, l3, D⟩ 0)) = G6
      have s6 : Same H G6 := by rw [← hG6]; exact keep _ _ h5
      have g6x : G6 b0 = some (.ins C dx0 (fieldsB ⟨b0, dx0, l1, l2, l3, D⟩ 0)) := by rw [← hG6, upd_same]
      refine ⟨_, rfl, _, _, _, _, _, rfl, s6 _ _ a1, c.cls, c.na _ (by simp), rfl, _, rfl, b0, C, dx0, _, rfl, g6x, c.cls, c.na _ (by simp), by show 5 < 1000; decide, ?_⟩
      show tNext _ _ (upd G6 b0 (.ins C dx0 (fieldsB ⟨b0, dx0, l1, l2, l3, D⟩ (cntF es : Nat))))
      refine ⟨_, rfl, ?_⟩
      have nD0 : H D = none := by
        cases e : H D with
        | none => rfl
        | some o =>
          have := fk D o nDd (s4 _ _ e)
          rw [nD] at this; cases this
      have bD : b0 ≠ D := by
        intro z
        have := fk b0 _ (fun z => by rw [z, a5] at nx; cases nx) g4x
        rw [z, nD] at this; cases this
      have up : ∀ y o, y ≠ b0 → G5 y = some o → (upd G6 b0 (.ins C dx0 (fieldsB ⟨b0, dx0, l1, l2, l3, D⟩ (cntF es : Nat)))) y = some o := fun y o hy e => by
        rw [upd_ne hy, ← hG6, upd_ne hy]; exact e
      have upT : ∀ y xs, H y = some (.tup xs) → (upd G6 b0 (.ins C dx0 (fieldsB ⟨b0, dx0, l1, l2, l3, D⟩ (cntF es : Nat)))) y = some (.tup xs) := fun y xs e => up _ _ (ne_of_none e nx) (h5 _ _ e)
      refine q _ ⟨b0, dx0, l1, l2, l3, D⟩ (keep _ _ s6) (fun p hp => ?_) ⟨upd_same, up _ _ b1.symm (s5 _ _ g4k), ⟨ps, up _ _ b2.symm (s5 _ _ g4p), Paired.mapP a3' fun _ _ z => upT _ _ z⟩, ⟨ds, up _ _ b3.symm (s5 _ _ g4d), a4'⟩,
        ⟨kvs, ⟨up _ _ bD.symm g5D, fun y hy => (a6 y hy).keep upT⟩, a5'⟩, ⟨ne_of_none g2k n2, ne_of_none g3k n3, ne_of_none g3p n3⟩, a8, a9⟩
      simp only [BP.foot, List.mem_cons, List.not_mem_nil, or_false] at hp
      rcases hp with rfl | rfl | rfl | rfl | rfl
      · exact nx
      · exact s1.free n1
      · exact s2.free n2
      · exact s3.free n3
      · exact nD0
end
end L2.Bk
end
section
set_option Elab.async false
set_option linter.all false
set_option maxRecDepth 100000
set_option maxHeartbeats 4000000
/-! Entries as data. -/
namespace L2.Bk
open L2.My PySem PySem.Spec PyProof.Rows
def kD : Key → PyData
  | .inl i => .int i
  | .inr x => .str x
def pD (ks : List Key) : PyData := .tuple (ks.map kD)
def entD (e : Ent) : PyData := .tuple [.str e.1, pD e.2]
structure GoodE (e : Ent) : Prop where
  kind : PyData.strOk e.1 = true
  parts : ∀ x, (Sum.inr x : Key) ∈ e.2 → PyData.strOk x = true
theorem eqvAll_map {α : Type} [DecidableEq α] {f : α → PyData} (h : ∀ a b, PyData.eqv (f a) (f b) = decide (a = b)) : ∀ xs ys : List α, PyData.eqvAll (xs.map f) (ys.map f) = decide (xs = ys)
  | [], [] => by simp [PyData.eqvAll]
  | [], y :: ys => by simp [PyData.eqvAll]
  | x :: xs, [] => by simp [PyData.eqvAll]
  | x :: xs, y :: ys => by
    rw [List.map_cons, List.map_cons, PyData.eqvAll, h, eqvAll_map h xs ys]
    by_cases h1 : x = y
    · by_cases h2 : xs = ys
      · simp [h1, h2]
      · simp [h1, h2]
    · simp [h1]
theorem eqv_k (a b : Key) : PyData.eqv (kD a) (kD b) = decide (a = b) := by
  cases a with
  | inl i => cases b with
    | inl j =>
      show PyData.eqv (.int i) (.int j) = _
      rw [PyData.eqv]
      by_cases h : i = j
      · subst h; simp
      · have : ¬ (Sum.inl i : Key) = Sum.inl j := fun z => h (Sum.inl.inj z)
        rw [decide_eq_false this]; simp [h]
    | inr y =>
      show PyData.eqv (.int i) (.str y) = _
      rw [decide_eq_false (fun z => nomatch z)]; simp [PyData.eqv]
  | inr x => cases b with
    | inl j =>
      show PyData.eqv (.str x) (.int j) = _
      rw [decide_eq_false (fun z => nomatch z)]; simp [PyData.eqv]
    | inr y =>
      show PyData.eqv (.str x) (.str y) = _
      rw [PyData.eqv]
      by_cases h : x = y
      · subst h; simp
      · have : ¬ (Sum.inr x : Key) = Sum.inr y := fun z => h (Sum.inr.inj z)
        rw [decide_eq_false this]; exact beq_eq_false_iff_ne.mpr h
theorem eqv_p (a b : List Key) : PyData.eqv (pD a) (pD b) = decide (a = b) := by
  unfold pD
  rw [PyData.eqv]
  exact eqvAll_map eqv_k a b
theorem eqv_s (x y : Str) : PyData.eqv (.str x) (.str y) = decide (x = y) := by
  have := eqv_k (.inr x) (.inr y)
  rw [show PyData.eqv (.str x) (.str y) = PyData.eqv (kD (.inr x)) (kD (.inr y)) from rfl, this]
  exact key_rr x y
theorem eqv_e (a b : Ent) : PyData.eqv (entD a) (entD b) = decide (a = b) := by
  unfold entD
  rw [PyData.eqv, PyData.eqvAll, PyData.eqvAll, PyData.eqvAll, eqv_s, eqv_p]
  by_cases h1 : a.1 = b.1
  · by_cases h2 : a.2 = b.2
    · rw [decide_eq_true h1, decide_eq_true h2, decide_eq_true (Prod.ext h1 h2)]; rfl
    · rw [decide_eq_true h1, decide_eq_false h2, decide_eq_false (fun z => h2 (congrArg Prod.snd z))]; rfl
  · rw [decide_eq_false h1, decide_eq_false (fun z => h1 (congrArg Prod.fst z))]; rfl
theorem can_k : ∀ {ks : List Key}, (∀ x, (Sum.inr x : Key) ∈ ks → PyData.strOk x = true) → PyData.canLayAll0 (ks.map kD) = true
  | [], _ => by simp [PyData.canLayAll0]
  | .inl i :: r, h => by
    have := can_k (ks := r) fun x hx => h x (List.mem_cons_of_mem _ hx)
    show PyData.canLayAll0 (PyData.int i :: r.map kD) = true
    simp [PyData.canLayAll0, PyData.canLay0, this]
  | .inr x :: r, h => by
    have := can_k (ks := r) fun x hx => h x (List.mem_cons_of_mem _ hx)
    show PyData.canLayAll0 (PyData.str x :: r.map kD) = true
    simp [PyData.canLayAll0, PyData.canLay0, this, h x List.mem_cons_self]
theorem dep_k : ∀ ks : List Key, PyData.depthAll (ks.map kD) ≤ 1
  | [] => by simp [PyData.depthAll]
  | .inl i :: r => by
    have := dep_k r
    show PyData.depthAll (PyData.int i :: r.map kD) ≤ 1
    simp only [PyData.depthAll, PyData.depth]
    omega
  | .inr x :: r => by
    have := dep_k r
    show PyData.depthAll (PyData.str x :: r.map kD) ≤ 1
    simp only [PyData.depthAll, PyData.depth]
    omega
theorem dep_p (ks : List Key) : PyData.depth (pD ks) ≤ 2 := by
  have := dep_k ks
  unfold pD
  simp only [PyData.depth]
  omega
theorem dep_e (e : Ent) : PyData.depth (entD e) ≤ 3 := by
  have := dep_p e.2
  unfold entD
  simp only [PyData.depth, PyData.depthAll]
  omega
theorem can_e {e : Ent} (h : GoodE e) : PyData.canLay0 (entD e) = true := by
  have := can_k h.parts
  unfold entD pD
  simp [PyData.canLay0, PyData.canLayAll0, h.kind, this]
theorem can_map {α : Type} {f : α → PyData} : ∀ {xs : List α}, (∀ x ∈ xs, PyData.canLay0 (f x) = true) → PyData.canLayAll0 (xs.map f) = true
  | [], _ => by simp [PyData.canLayAll0]
  | x :: r, h => by
    have := can_map (f := f) (xs := r) fun y hy => h y (List.mem_cons_of_mem _ hy)
    simp [PyData.canLayAll0, this, h x List.mem_cons_self]
theorem dep_map {α : Type} {f : α → PyData} {n : Nat} (h : ∀ x, PyData.depth (f x) ≤ n) : ∀ xs : List α, PyData.depthAll (xs.map f) ≤ n
  | [] => by simp [PyData.depthAll]
  | x :: r => by
    have h1 := dep_map h r
    have h2 := h x
    simp only [List.map_cons, PyData.depthAll]
    omega
theorem shaped_list {α : Type} {f : α → PyData} {n : Nat} (hn : n < 64) (hd : ∀ x, PyData.depth (f x) ≤ n) {xs : List α} (hc : ∀ x ∈ xs, PyData.canLay0 (f x) = true) : SeqAt.shaped (.list (xs.map f)) = true := by
  have h1 := can_map hc
  have h2 := dep_map hd xs
  simp only [SeqAt.shaped, PyData.canLay0, PyData.depth, Bool.and_eq_true, decide_eq_true_eq]
  exact ⟨h1, decide_eq_true (by omega)⟩
theorem shaped_e {e : Ent} (h : GoodE e) : SeqAt.shaped (entD e) = true := by
  have h1 := can_e h
  have h2 := dep_e e
  simp only [SeqAt.shaped, Bool.and_eq_true, decide_eq_true_eq]
  exact ⟨h1, by omega⟩
theorem name_strOk {x : Str} (h : nameV (.str x) = true) : PyData.strOk x = true := by
  have h2 : x.cps.toList.all goodC = true := (Bool.and_eq_true_iff.mp h).2
  rw [List.all_eq_true] at h2
  show x.cps.all (· < 0x110000) = true
  rw [← Array.all_toList, List.all_eq_true]
  intro c hc
  have q := h2 c hc
  have q2 : c ≤ 126 := of_decide_eq_true (Bool.and_eq_true_iff.mp q).2
  exact decide_eq_true (by omega)
theorem Ok1.good {n : Nat} {e : Ent} (h : Ok1 n e) : GoodE e := by
  refine ⟨kinds_ok _ h.kind, ?_⟩
  cases h with
  | name x h =>
    intro y hy
    rw [List.mem_singleton] at hy
    cases hy
    exact name_strOk h
  | num i _ _ => intro y hy; rw [List.mem_singleton] at hy; cases hy
  | fresh i _ => intro y hy; rw [List.mem_singleton] at hy; cases hy
  | row is _ _ => intro y hy; obtain ⟨i, _, e⟩ := List.mem_map.mp hy; cases e
  | parts k is _ _ => intro y hy; obtain ⟨i, _, e⟩ := List.mem_map.mp hy; cases e
section
variable {K : PySem.W.Frag} {H : Hp}
theorem dp_k : ∀ ks : List Key, DpAll K H (ks.map kV) (ks.map kD)
  | [] => .nil
  | .inl i :: r => .cons (.int i) (dp_k r)
  | .inr x :: r => .cons (.str x) (dp_k r)
theorem dp_p {p : Addr} {ks : List Key} (h : H p = some (.tup (ks.map kV))) : Dp K H (.ref p) (pD ks) := .tup (.of h) (dp_k ks)
theorem dp_e {a : Addr} {e : Ent} (h : EntAt H a e) : Dp K H (.ref a) (entD e) := by
  obtain ⟨p, h1, h2⟩ := h
  exact .tup (.of h1) (.cons (.str _) (.cons (dp_p h2) .nil))
theorem dp_ents : ∀ {qs : List Addr} {es : List Ent}, Paired (EntAt H) qs es → DpAll K H (qs.map .ref) (es.map entD)
  | _, _, .nil => .nil
  | _, _, .cons h t => .cons (dp_e h) (dp_ents t)
theorem dp_parts : ∀ {ps : List Addr} {es : List Ent}, Paired (fun (p : Addr) (e : Ent) => H p = some (.tup (e.2.map kV))) ps es → DpAll K H (ps.map .ref) (es.map fun e => pD e.2)
  | _, _, .nil => .nil
  | _, _, .cons h t => .cons (dp_p h) (dp_parts t)
theorem dp_kinds : ∀ es : List Ent, DpAll K H (es.map fun e => V.str e.1) (es.map fun e => PyData.str e.1)
  | [] => .nil
  | e :: r => .cons (.str _) (dp_kinds r)
end
end L2.Bk
end
section
set_option Elab.async false
set_option linter.all false
set_option maxRecDepth 100000
set_option maxHeartbeats 4000000
namespace L2.Bk
open L2.My PySem PySem.Spec PyProof.Rows
/-- what isinstance asks of the class -/
structure BkI (K : PySem.W.Frag) (C : Addr) : Prop where
  ha : PySem.W.findIn K (.ref C) "__class__" = some (some (.builtin "object.__class__"))
  hn : PySem.W.specialIn K (.builtin "object.__class__") "__get__" = some (some (.builtin "getset_descriptor.__get__"))
  htk : PySem.W.takesIn K (.builtin "object.__class__") = some true
  hm : PySem.W.mroIn K C (.type "object") = some true
  self : PySem.W.kitOne K (.ref C) (.ref C) = some true
def spEqB (P : Program) (w : World) (K : PySem.W.Frag) (C : Addr) : Sp := fun vs H Q _ => ∃ B es y, vs = [.ref B.b, y] ∧ BookAt P w H C B es ∧ ((∃ B2 es2, y = .ref B2.b ∧ BookAt P w H C B2 es2 ∧ Q (.bl (decide (es = es2))) H) ∨ ∃ t, TyX K H y t ∧ PySem.W.kitOne K t (.ref C) = some false ∧ Q (.bl false) H)
section
variable {P : Program} {w : World} {K : PySem.W.Frag} {mg : Str → Option Value} {base : Heap} {C C0 C1 C2 C3 : Addr}
theorem scEq : FnScope ["self", "other"] ["self", "other"] (defScope (mth 1)) := ⟨rfl, rfl, rfl, by decide +kernel, rfl, by decide +kernel, by decide +kernel⟩
theorem ok_eqB {f : Addr} {fd : FuncData} {k : Nat} (F : Fun K "__eq__" "Book.__eq__" (mth 1) f fd) (T : PlTxt mg) (c : BkC K C) (ci : BkI K C) (gB : mg "Book" = some (.ref C)) : FnOk P w K mg base CX0 (k + 1) f fd ["self", "other"] (spEqB P w K C) := by
  refine F.ok scEq (fun vs H Q E h => ?_) (fun cdv A outer s H vs Q E hr h => ?_)
  · obtain ⟨B, es, y, rfl, _⟩ := h
    rfl
  · obtain ⟨B, es, y, rfl, hB, q⟩ := h
    refine ⟨_, pss_one (ps_ret (pe_and (pe_callB call_isi (by rfl) T.isi (by decide +kernel) (pa_cons (pv 1) (pa_cons (pe_glob (v := .ref C) (by rfl) gB rfl) pa_nil)))
        (pe_and (pe_cmpR (op_eqD hr.units) (pe_fld (pv 0) rfl) (pe_fld (pv 1) rfl) (nomark _)) (pe_one (pe_cmpR (op_eqD hr.units) (pe_fld (pv 0) rfl) (pe_fld (pv 1) rfl) (nomark _)))))), ?_⟩
    rcases q with ⟨B2, es2, rfl, hB2, q⟩ | ⟨t, ht, hk, q⟩
    · refine ⟨_, rfl, _, _, _, _, true, rfl, .own C, .base (.ins hB2.ins c.cls ci.ha ci.hn ci.htk ci.hm), ci.self, _, rfl, iteT ?_⟩
      refine ⟨_, rfl, _, _, _, _, _, rfl, hB.ins, c.cls, c.na _ (by simp), rfl, _, rfl, _, _, _, _, _, rfl, hB2.ins, c.cls, c.na _ (by simp), rfl, ?_⟩
      have sk : ∀ {B : BP} {es : List Ent}, BookAt P w H C B es → Dp K H (.ref B.lk) (.list (es.map fun e => .str e.1)) ∧ SeqAt.shaped (.list (es.map fun e => PyData.str e.1)) = true := fun {B es} hB =>
        ⟨.lst (.of hB.kinds) (dp_kinds _), shaped_list (n := 1) (by decide) (fun x => by simp [PyData.depth]) fun e he => by
          obtain ⟨i, hi⟩ := List.mem_iff_getElem?.mp he
          simp [PyData.canLay0, (hB.wf.ok i e hi).good.kind]⟩
      have sp : ∀ {B : BP} {es : List Ent}, BookAt P w H C B es → Dp K H (.ref B.lp) (.list (es.map fun e => pD e.2)) ∧ SeqAt.shaped (.list (es.map fun e => pD e.2)) = true := fun {B es} hB => by
        obtain ⟨ps, h1, h2⟩ := hB.parts
        refine ⟨.lst (.of h1) (dp_parts h2), shaped_list (n := 2) (by decide) (fun x => dep_p _) fun e he => ?_⟩
        obtain ⟨i, hi⟩ := List.mem_iff_getElem?.mp he
        have := can_k (hB.wf.ok i e hi).good.parts
        unfold pD
        simp [PyData.canLay0, this]
      obtain ⟨k1, k2⟩ := sk hB
      obtain ⟨k3, k4⟩ := sk hB2
      refine ⟨_, _, k1, k3, k2, k4, _, rfl, ?_⟩
      obtain ⟨p1, p2⟩ := sp hB
      obtain ⟨p3, p4⟩ := sp hB2
      have ek : PyData.eqv (.list (es.map fun e => PyData.str e.1)) (.list (es2.map fun e => PyData.str e.1)) = decide (es.map (·.1) = es2.map (·.1)) := by
        rw [PyData.eqv, show (es.map fun e => PyData.str e.1) = (es.map (·.1)).map PyData.str by rw [List.map_map]; rfl, show (es2.map fun e => PyData.str e.1) = (es2.map (·.1)).map PyData.str by rw [List.map_map]; rfl]
        exact eqvAll_map eqv_s _ _
      have ep : PyData.eqv (.list (es.map fun e => pD e.2)) (.list (es2.map fun e => pD e.2)) = decide (es.map (·.2) = es2.map (·.2)) := by
        rw [PyData.eqv, show (es.map fun e => pD e.2) = (es.map (·.2)).map pD by rw [List.map_map]; rfl, show (es2.map fun e => pD e.2) = (es2.map (·.2)).map pD by rw [List.map_map]; rfl]
        exact eqvAll_map eqv_p _ _
      have both : es = es2 ↔ es.map (·.1) = es2.map (·.1) ∧ es.map (·.2) = es2.map (·.2) := by
        constructor
        · rintro rfl
          exact ⟨rfl, rfl⟩
        · rintro ⟨h1, h2⟩
          have z : ∀ l : List Ent, l = (l.map (·.1)).zip (l.map (·.2)) := fun l => by
            induction l with
            | nil => rfl
            | cons e r ih => rw [List.map_cons, List.map_cons, List.zip_cons_cons, ← ih]
          rw [z es, z es2, h1, h2]
      rw [ek]
      by_cases h1 : es.map (·.1) = es2.map (·.1)
      · rw [decide_eq_true h1]
        refine iteT ?_
        refine ⟨_, rfl, _, _, _, _, _, rfl, hB.ins, c.cls, c.na _ (by simp), rfl, _, rfl, _, _, _, _, _, rfl, hB2.ins, c.cls, c.na _ (by simp), rfl, ?_⟩
        refine ⟨_, _, p1, p3, p2, p4, ?_⟩
        rw [ep]
        by_cases h2 : es.map (·.2) = es2.map (·.2)
        · rw [decide_eq_true (both.mpr ⟨h1, h2⟩)] at q
          rw [decide_eq_true h2]
          exact q
        · rw [decide_eq_false (fun z => h2 (both.mp z).2)] at q
          rw [decide_eq_false h2]
          exact q
      · rw [decide_eq_false (fun z => h1 (both.mp z).1)] at q
        rw [decide_eq_false h1]
        exact iteF q
    · exact ⟨_, rfl, _, _, _, _, false, rfl, .own C, ht, hk, _, rfl, iteF q⟩
end
end L2.Bk
end
section
set_option Elab.async false
set_option linter.all false
set_option maxRecDepth 100000
set_option maxHeartbeats 4000000
/-! Terms: name_term, number_term, row_term. -/
namespace L2.Bk
open L2.My PySem PySem.Spec PyProof.Rows
abbrev sNt : Stmt := top 19
abbrev sUt : Stmt := top 20
abbrev sRt : Stmt := top 21
/-- a method of the book that may be called -/
structure MthX (P : Program) (w : World) (K : PySem.W.Frag) (mg : Str → Option Value) (base : Heap) (C : Addr) (k : Nat) (m : Str) (ps : List Str) (sp : Sp) where
  f : Addr
  fd : FuncData
  F : FnOk P w K mg base (CX P w) k f fd ps sp
  m : Meth K C m f
  b : Binds K fd ps []
theorem pass_no {X : Cx} : Passes (CX X.prog X.w) X E0 := fun pins σ H s e s' I h => by
  obtain ⟨_, _, _, _, _, _, _, _, _, _, _, _, hE⟩ := h
  exact hE.elim
abbrev nameE (z : Str) : Ent := ("name", [.inr z])
abbrev numbE (i : Int) : Ent := ("number", [.inl i])
abbrev rowE (is : List Int) : Ent := ("row", is.map .inl)
/-- what a put leaves -/
def PutQ (P : Program) (w : World) (C : Addr) (H : Hp) (B : BP) (es : List Ent) (e : Ent) (Q : VK) : Prop := ∀ H' es' i, BL B.foot H H' → BookAt P w H' C B es' → es <+: es' → es'[i]? = some e → (e ∈ es → es' = es) → es'.length ≤ es.length + 1 → Q (.int (i : Nat)) H'
theorem put_lets {P : Program} {w : World} {C C0 C1 : Addr} {B : BP} {H : Hp} {es : List Ent} {z : Str} {a : Addr} {ks : List Key} {Q : VK} {E : XK} (hB : BookAt P w H C B es) (hd : Due H es.length (.str z) (.ref a) (.lets (z, ks))) (hl : es.length < 30000) (q : PutQ P w C H B es (z, ks) Q) : spPut P w C C0 C1 [.ref B.b, .str z, .ref a] H Q E := by
  refine ⟨B, es, _, _, _, rfl, hB, hd, hl, fun i hi H' s => ?_, fun hn H' s hB' => ?_⟩
  · have hm : es[i]? = some (z, ks) := by
      unfold numE at hi
      split at hi
      · rename_i h
        obtain rfl := Option.some.inj hi
        obtain ⟨x, hx, e⟩ := List.any_eq_true.mp h
        have hlt : (es.findIdx fun x => decide (x = (z, ks))) < es.length := List.findIdx_lt_length_of_exists ⟨x, hx, e⟩
        have := List.findIdx_getElem (w := hlt)
        rw [List.getElem?_eq_getElem hlt, of_decide_eq_true this]
      · cases hi
    exact q H' es i (fun p o _ e => s _ _ e) (hB.same s) (List.prefix_refl _) hm (fun _ => rfl) (Nat.le_succ _)
  · have hnm : (z, ks) ∉ es := fun hm => by
      unfold numE at hn
      rw [if_pos (List.any_eq_true.mpr ⟨_, hm, decide_eq_true rfl⟩)] at hn
      cases hn
    refine q H' (es ++ [(z, ks)]) es.length s hB' (List.prefix_append _ _) ?_ (fun hm => absurd hm hnm) ?_
    · rw [List.getElem?_append_right (Nat.le_refl _), Nat.sub_self]; rfl
    · rw [List.length_append]; exact Nat.le_refl _
def spNt (P : Program) (w : World) (C : Addr) : Sp := fun vs H Q _ => ∃ B es z, vs = [.ref B.b, .str z] ∧ BookAt P w H C B es ∧ es.length < 30000 ∧ nameV (.str z) = true ∧ PutQ P w C H B es (nameE z) Q
def spUt (P : Program) (w : World) (C : Addr) : Sp := fun vs H Q _ => ∃ B es i, vs = [.ref B.b, .int i] ∧ BookAt P w H C B es ∧ es.length < 30000 ∧ 0 ≤ i ∧ i < 10 ^ 12 ∧ PutQ P w C H B es (numbE i) Q
def spRt (P : Program) (w : World) (C : Addr) : Sp := fun vs H Q _ => ∃ (B : BP) (es : List Ent) (a : Addr) (is : List Int), vs = [.ref B.b, .ref a] ∧ BookAt P w H C B es ∧ es.length < 30000 ∧ (H a = some (.lst (is.map V.int)) ∨ H a = some (.tup (is.map V.int))) ∧ is.length ≤ 400 ∧ (∀ i ∈ is, 0 ≤ i ∧ i < (es.length : Nat)) ∧ PutQ P w C H B es (rowE is) Q
theorem PutQ.same {P : Program} {w : World} {C : Addr} {H H' : Hp} {B : BP} {es : List Ent} {e : Ent} {Q : VK} (q : PutQ P w C H B es e Q) (s : Same H H') : PutQ P w C H' B es e Q := fun G es' i bl => q G es' i fun p o hp e => bl p o hp (s _ _ e)
theorem pt_name {H : Hp} {z : Str} (h : nameV (.str z) = true) : PtOk H (([.inr z] : List Key).map kV) := by
  have h' : (decide (z.length ≤ 40) && z.cps.toList.all goodC) = true := h
  rw [Bool.and_eq_true, decide_eq_true_eq] at h'
  refine ⟨by simp, fun x hx => ?_, fun x hx y e => ?_⟩
  · rw [List.mem_singleton.mp hx]; exact ⟨_, .str z⟩
  · rw [List.mem_singleton.mp hx] at e
    cases e
    exact ⟨by omega, h'.2⟩
theorem pt_ints {H : Hp} (is : List Int) (h : is.length ≤ 1000) : PtOk H (is.map V.int) := by
  refine ⟨by rw [List.length_map]; exact h, fun x hx => ?_, fun x hx y e => ?_⟩
  · obtain ⟨i, _, rfl⟩ := List.mem_map.mp hx
    exact ⟨_, .int i⟩
  · obtain ⟨i, _, rfl⟩ := List.mem_map.mp hx
    cases e
section
variable {P : Program} {w : World} {K : PySem.W.Frag} {mg : Str → Option Value} {base : Heap} {C C0 C1 : Addr}
theorem scNt : FnScope ["book", "text"] ["book", "text"] (defScope sNt) := ⟨rfl, rfl, rfl, by decide +kernel, rfl, by decide +kernel, by decide +kernel⟩
theorem ok_nt {f : Addr} {fd : FuncData} {k : Nat} (F : Fun K "name_term" "name_term" sNt f fd) (c : BkC K C) (cP : MthX P w K mg base C (k + 4) "put" ["self", "kind", "parts"] (spPut P w C C0 C1)) : FnOk P w K mg base CX0 (k + 5) f fd ["book", "text"] (spNt P w C) := by
  refine F.ok scNt (fun vs H Q E h => ?_) (fun cdv A outer s H vs Q E hr h => ?_)
  · obtain ⟨B, es, z, rfl, _⟩ := h
    rfl
  · obtain ⟨B, es, z, rfl, hB, hl, hz, q⟩ := h
    refine ⟨_, (pss_one (ps_ret (pe_meth (pv 0) c.cls cP.m cP.F (hr.mono (by omega)) cP.b .nil pass_no (pa_cons pe_str (pa_cons (pe_tup (pa_cons (pv 1) pa_nil)) pa_nil))))), ?_⟩
    refine ⟨_, rfl, B.b, B.dx, _, rfl, hB.ins, rfl, _, rfl, by show 1 ≤ sizeLine; decide, fun p np => ?_⟩
    have u := same_upd (o := HO.tup [.str z]) np
    exact put_lets (hB.same u) (.lets (ks := [.inr z]) (by decide +kernel) upd_same (pt_name hz) (by unfold fitsT; rw [if_pos rfl]; exact hz)) hl (q.same u)
theorem scUt : FnScope ["book", "number"] ["book", "number"] (defScope sUt) := ⟨rfl, rfl, rfl, by decide +kernel, rfl, by decide +kernel, by decide +kernel⟩
theorem ok_ut {f : Addr} {fd : FuncData} {k : Nat} (F : Fun K "number_term" "number_term" sUt f fd) (c : BkC K C) (cP : MthX P w K mg base C (k + 4) "put" ["self", "kind", "parts"] (spPut P w C C0 C1)) : FnOk P w K mg base CX0 (k + 5) f fd ["book", "number"] (spUt P w C) := by
  refine F.ok scUt (fun vs H Q E h => ?_) (fun cdv A outer s H vs Q E hr h => ?_)
  · obtain ⟨B, es, z, rfl, _⟩ := h
    rfl
  · obtain ⟨B, es, i, rfl, hB, hl, i0, i1, q⟩ := h
    refine ⟨_, (pss_one (ps_ret (pe_meth (pv 0) c.cls cP.m cP.F (hr.mono (by omega)) cP.b .nil pass_no (pa_cons pe_str (pa_cons (pe_tup (pa_cons (pv 1) pa_nil)) pa_nil))))), ?_⟩
    refine ⟨_, rfl, B.b, B.dx, _, rfl, hB.ins, rfl, _, rfl, by show 1 ≤ sizeLine; decide, fun p np => ?_⟩
    have u := same_upd (o := HO.tup [.int i]) np
    exact put_lets (hB.same u) (.lets (ks := [.inl i]) (by decide +kernel) upd_same (pt_ints [i] (by simp)) (by unfold fitsT; rw [if_neg (by decide +kernel), if_pos rfl]; exact decide_eq_true ⟨i0, i1⟩)) hl (q.same u)
theorem scRt : FnScope ["book", "items"] ["book", "items"] (defScope sRt) := ⟨rfl, rfl, rfl, by decide +kernel, rfl, by decide +kernel, by decide +kernel⟩
theorem ok_rt {f : Addr} {fd : FuncData} {k : Nat} (F : Fun K "row_term" "row_term" sRt f fd) (c : BkC K C) (ht : mg "tuple" = none) (cP : MthX P w K mg base C (k + 4) "put" ["self", "kind", "parts"] (spPut P w C C0 C1)) : FnOk P w K mg base CX0 (k + 5) f fd ["book", "items"] (spRt P w C) := by
  refine F.ok scRt (fun vs H Q E h => ?_) (fun cdv A outer s H vs Q E hr h => ?_)
  · obtain ⟨B, es, a, is, rfl, _⟩ := h
    rfl
  · obtain ⟨B, es, a, is, rfl, hB, hl, ha, hi, hlt, q⟩ := h
    refine ⟨_, (pss_one (ps_ret (pe_meth (pv 0) c.cls cP.m cP.F (hr.mono (by omega)) cP.b .nil pass_no (pa_cons pe_str (pa_cons (pe_tupleOf (by rfl) ht (pv 1)) pa_nil))))), ?_⟩
    have ek : (is.map Sum.inl : List Key).map kV = is.map V.int := by rw [List.map_map]; rfl
    have hf : fitsT es.length "row" ((is.map Sum.inl : List Key).map kV) = true := by
      unfold fitsT
      rw [if_neg (by decide +kernel), if_neg (by decide +kernel), if_pos rfl, ek, List.length_map, decide_eq_true hi, Bool.true_and, List.all_eq_true]
      intro x hx
      obtain ⟨i, hi2, rfl⟩ := List.mem_map.mp hx
      exact decide_eq_true (hlt i hi2)
    have hp : ∀ G, PtOk G ((is.map Sum.inl : List Key).map kV) := fun G => by rw [ek]; exact pt_ints is (Nat.le_trans hi (by decide))
    refine ⟨_, rfl, B.b, B.dx, _, rfl, hB.ins, rfl, _, rfl, ?_⟩
    rcases ha with ha | ha
    · refine .inl ⟨a, _, rfl, SqL.of ha, fun p np => ?_⟩
      have u := same_upd (o := HO.tup (is.map V.int)) np
      exact put_lets (hB.same u) (.lets (ks := is.map .inl) (by decide +kernel) (by rw [ek]; exact upd_same) (hp _) hf) hl (q.same u)
    · exact .inr ⟨a, _, rfl, .of ha, put_lets hB (.lets (ks := is.map .inl) (by decide +kernel) (by rw [ek]; exact ha) (hp _) hf) hl q⟩
end
end L2.Bk
end
section
set_option Elab.async false
set_option linter.all false
set_option maxRecDepth 100000
set_option maxHeartbeats 4000000
/-! told_part, told_row. -/
namespace L2.Bk
open L2.My PySem PySem.Spec PyProof.Rows
abbrev sTp : Stmt := top 22
abbrev sTw : Stmt := top 23
/-- the first part of a term of a kind -/
def partV (es : List Ent) (kd : Str) (t : Nat) : V := match es[t]? with
  | some (k, x :: _) => if k = kd then kV x else .non
  | _ => .non
/-- the items of a row -/
def rowOf (es : List Ent) (t : Nat) : Option (List Int) := match es[t]? with
  | some (k, ks) => if k = "row" then some (ks.filterMap intK) else none
  | none => none
/-- the items of a row of so many -/
def rowN (es : List Ent) (t : Nat) (n : Option Nat) : Option (List Int) := match rowOf es t with
  | some is => if (∀ m, n = some m → is.length = m) then some is else none
  | none => none
def RowV (H : Hp) (v : V) : Option (List Int) → Prop
  | some is => ∃ p, v = .ref p ∧ H p = some (.tup (is.map V.int))
  | none => v = .non
def cntV : Option Nat → V
  | some n => .int (n : Nat)
  | none => .non
def spTp (P : Program) (w : World) (C : Addr) : Sp := fun vs H Q _ => ∃ (B : BP) (es : List Ent) (kd : Str) (t : Nat), vs = [.ref B.b, .str kd, .int (t : Nat)] ∧ BookAt P w H C B es ∧ t < es.length ∧ (kd = "name" ∨ kd = "number") ∧ Q (partV es kd t) H
def spTw (P : Program) (w : World) (C : Addr) : Sp := fun vs H Q _ => ∃ (B : BP) (es : List Ent) (t : Nat) (n : Option Nat), vs = [.ref B.b, .int (t : Nat), cntV n] ∧ BookAt P w H C B es ∧ t < es.length ∧ ∀ v, RowV H v (rowN es t n) → Q v H
theorem sz_ne : ∀ p ∈ sizesK, p.1 ≠ ("row" : Str) ∧ p.1 ≠ ("name" : Str) ∧ p.1 ≠ ("number" : Str) := by decide +kernel
theorem row_ok {n : Nat} {k : Str} {ks : List Key} (h : Ok1 n (k, ks)) (hk : k = "row") : ks = (ks.filterMap intK).map .inl ∧ (ks.filterMap intK).length ≤ 400 ∧ ∀ i ∈ ks.filterMap intK, 0 ≤ i ∧ i < n := by
  subst hk
  generalize e : (("row", ks) : Ent) = en at h
  cases h with
  | name x h => cases e
  | num i h0 h1 => cases e
  | fresh i h0 => cases e
  | row is hl h =>
    cases e
    rw [fm_inl]
    exact ⟨rfl, hl, h⟩
  | parts k is hk h =>
    cases e
    exact absurd rfl (sz_ne _ hk).1
theorem part_ok {n : Nat} {k : Str} {ks : List Key} (h : Ok1 n (k, ks)) (hk : k = "name" ∨ k = "number") : ∃ x, ks = [x] := by
  generalize e : ((k, ks) : Ent) = en at h
  cases h with
  | name x h => cases e; exact ⟨_, rfl⟩
  | num i h0 h1 => cases e; exact ⟨_, rfl⟩
  | fresh i h0 => cases e; exact ⟨_, rfl⟩
  | row is hl h =>
    cases e
    exact absurd hk (by decide +kernel)
  | parts k is hk2 h =>
    cases e
    exfalso
    rcases hk with rfl | rfl
    · exact (sz_ne _ hk2).2.1 rfl
    · exact (sz_ne _ hk2).2.2 rfl
section
variable {P : Program} {w : World} {K : PySem.W.Frag} {mg : Str → Option Value} {base : Heap} {C C2 : Addr}
theorem scTp : FnScope ["book", "kind", "term"] ["book", "kind", "term"] (defScope sTp) := ⟨rfl, rfl, rfl, by decide +kernel, rfl, by decide +kernel, by decide +kernel⟩
theorem ok_tp {f : Addr} {fd : FuncData} {k : Nat} (F : Fun K "told_part" "told_part" sTp f fd) (c : BkC K C) (cK : MthX P w K mg base C (k + 4) "kind" ["self", "term"] (spTell P w C C2 rKind)) (cA : MthX P w K mg base C (k + 4) "parts" ["self", "term"] (spTell P w C C2 rParts)) : FnOk P w K mg base CX0 (k + 5) f fd ["book", "kind", "term"] (spTp P w C) := by
  refine F.ok scTp (fun vs H Q E h => ?_) (fun cdv A outer s H vs Q E hr h => ?_)
  · obtain ⟨B, es, kd, t, rfl, _⟩ := h
    rfl
  · obtain ⟨B, es, kd, t, rfl, hB, ht, hk, q⟩ := h
    refine ⟨_, (pss_one (ps_ret (pe_ifExp (pt_cmpR op_eq (pe_meth (pv 0) c.cls cK.m cK.F (hr.mono (by omega)) cK.b .nil pass_no (pa_cons (pv 2) pa_nil)) (pv 1) (nomark _)) (pe_ix ix_tup (pe_meth (pv 0) c.cls cA.m cA.F (hr.mono (by omega)) cA.b .nil pass_no (pa_cons (pv 2) pa_nil)) pe_int (fun _ _ => rfl)) pe_non))), ?_⟩
    obtain ⟨⟨k0, ks⟩, he⟩ : ∃ e, es[t]? = some e := ⟨_, List.getElem?_eq_getElem ht⟩
    have hno : ∀ {A : Prop}, belowV (es.length : Nat) (.int (t : Nat)) = false → A := fun h => by
      have : belowV (es.length : Nat) (.int (t : Nat)) = true := decide_eq_true (show 0 ≤ ((t : Nat) : Int) ∧ ((t : Nat) : Int) < ((es.length : Nat) : Int) by omega)
      rw [this] at h; cases h
    have hT : ThT H (.int (t : Nat)) "int" := .int _
    refine ⟨_, rfl, B.b, B.dx, _, rfl, hB.ins, rfl, _, rfl, B, _, es, .int (t : Nat), "int", rfl, hB, hT, fun i ei hi x hx => ?_, fun h => hno h⟩
    have ei : t = i := by have := V.int.inj ei; omega
    subst ei
    obtain ⟨e, he', rfl⟩ := hx
    rw [he] at he'
    obtain rfl := Option.some.inj he'
    refine ⟨_, rfl, rfl, _, rfl, ?_⟩
    have ed : decide (V.str k0 = V.str kd) = decide (k0 = kd) := decide_eq_decide.mpr ⟨fun e => V.str.inj e, fun e => by rw [e]⟩
    rw [show ((k0, ks) : Ent).1 = k0 from rfl, ed]
    by_cases hkk : k0 = kd
    · subst hkk
      rw [decide_eq_true rfl]
      obtain ⟨x, rfl⟩ := part_ok (hB.wf.ok t _ he) hk
      have ep : partV es k0 t = kV x := by unfold partV; rw [he]; exact if_pos rfl
      rw [ep] at q
      refine iteT ⟨_, rfl, B.b, B.dx, _, rfl, hB.ins, rfl, _, rfl, B, _, es, .int (t : Nat), "int", rfl, hB, hT, fun i ei hi y hy => ?_, fun h => hno h⟩
      have ei : t = i := by have := V.int.inj ei; omega
      subst ei
      obtain ⟨e, p, he', rfl, hp⟩ := hy
      rw [he] at he'
      obtain rfl := Option.some.inj he'
      exact ⟨p, _, _, kV x, rfl, rfl, .of hp, atI_nat (j := 0) rfl, q⟩
    · rw [decide_eq_false hkk]
      have ep : partV es kd t = .non := by
        unfold partV
        rw [he]
        cases ks with
        | nil => rfl
        | cons x r => exact if_neg hkk
      rw [ep] at q
      exact iteF q
theorem scTw : FnScope ["book", "term", "count", "right"] ["book", "term", "count"] (defScope sTw) := ⟨rfl, rfl, rfl, by decide +kernel, rfl, by decide +kernel, by decide +kernel⟩
theorem ok_tw {f : Addr} {fd : FuncData} {k : Nat} (F : Fun K "told_row" "told_row" sTw f fd) (T : Tx mg) (c : BkC K C) (cK : MthX P w K mg base C (k + 4) "kind" ["self", "term"] (spTell P w C C2 rKind)) (cA : MthX P w K mg base C (k + 4) "parts" ["self", "term"] (spTell P w C C2 rParts)) : FnOk P w K mg base CX0 (k + 5) f fd ["book", "term", "count"] (spTw P w C) := by
  refine F.ok scTw (fun vs H Q E h => ?_) (fun cdv A outer s H vs Q E hr h => ?_)
  · obtain ⟨B, es, t, n, rfl, _⟩ := h
    rfl
  · obtain ⟨B, es, t, n, rfl, hB, ht, q⟩ := h
    refine ⟨_, (pss_cons (ps_set (i := 3) scTw.nd rfl (Or.inl rfl) (pe_and (pe_cmpR op_eq (pe_meth (pv 0) c.cls cK.m cK.F (hr.mono (by omega)) cK.b .nil pass_no (pa_cons (pv 1) pa_nil)) pe_str (nomark _)) (pe_one (pe_or (pe_cmpR op_isN (pv 2) pe_non (nomark _)) (pe_one (pe_cmpR op_eq (pe_callB call_len_seq (by rfl) T.len_ PySem.boot_len (pa_cons (pe_meth (pv 0) c.cls cA.m cA.F (hr.mono (by omega)) cA.b .nil pass_no (pa_cons (pv 1) pa_nil)) pa_nil)) (pv 2) (nomark _))))))) (pss_one (ps_ret (pe_ifExp (pt_val (pv 3)) (pe_meth (pv 0) c.cls cA.m cA.F (hr.mono (by omega)) cA.b .nil pass_no (pa_cons (pv 1) pa_nil)) pe_non)))), ?_⟩
    obtain ⟨⟨k0, ks⟩, he⟩ : ∃ e, es[t]? = some e := ⟨_, List.getElem?_eq_getElem ht⟩
    have hno : ∀ {A : Prop}, belowV (es.length : Nat) (.int (t : Nat)) = false → A := fun h => by
      have : belowV (es.length : Nat) (.int (t : Nat)) = true := decide_eq_true (show 0 ≤ ((t : Nat) : Int) ∧ ((t : Nat) : Int) < ((es.length : Nat) : Int) by omega)
      rw [this] at h; cases h
    have hT : ThT H (.int (t : Nat)) "int" := .int _
    refine seq_use (t := tAsg _ _) (fun σ G => σ = [some (.ref B.b), some (.int (t : Nat)), some (cntV n), some (.bl (rowN es t n).isSome)] ∧ H = G) ?_ (fun hrest => ?_)
    · rintro σ G ⟨rfl, rfl⟩
      refine ⟨_, rfl, _, rfl, ?_⟩
      cases hr0 : rowN es t n with
      | none =>
        rw [hr0] at q
        exact iteF (q _ rfl)
      | some is =>
        have hro : k0 = "row" ∧ is = ks.filterMap intK := by
          unfold rowN rowOf at hr0
          rw [he] at hr0
          dsimp only at hr0
          by_cases hk : k0 = "row"
          · rw [if_pos hk] at hr0
            dsimp only at hr0
            split at hr0
            · exact ⟨hk, (Option.some.inj hr0).symm⟩
            · cases hr0
          · rw [if_neg hk] at hr0
            cases hr0
        rw [hr0] at q
        refine iteT ⟨_, rfl, B.b, B.dx, _, rfl, hB.ins, rfl, _, rfl, B, _, es, .int (t : Nat), "int", rfl, hB, hT, fun i ei hi y hy => ?_, fun h => hno h⟩
        have ei : t = i := by have := V.int.inj ei; omega
        subst ei
        obtain ⟨e, p, he', rfl, hp⟩ := hy
        rw [he] at he'
        obtain rfl := Option.some.inj he'
        refine q _ ⟨p, rfl, ?_⟩
        obtain ⟨o1, o2, o3⟩ := row_ok (hB.wf.ok t _ he) hro.1
        rw [hp, hro.2]
        show some (HO.tup (ks.map kV)) = _
        conv => lhs; rw [o1]
        rw [List.map_map]
        rfl
    · refine ⟨_, rfl, B.b, B.dx, _, rfl, hB.ins, rfl, _, rfl, B, _, es, .int (t : Nat), "int", rfl, hB, hT, fun i ei hi x hx => ?_, fun h => hno h⟩
      have ei : t = i := by have := V.int.inj ei; omega
      subst ei
      obtain ⟨e, he', rfl⟩ := hx
      rw [he] at he'
      obtain rfl := Option.some.inj he'
      have ed : decide (V.str k0 = V.str "row") = decide (k0 = "row") := decide_eq_decide.mpr ⟨fun e => V.str.inj e, fun e => by rw [e]⟩
      refine ⟨rfl, _, rfl, ?_⟩
      rw [show ((k0, ks) : Ent).1 = k0 from rfl, ed]
      by_cases hk : k0 = "row"
      · have hro : rowOf es t = some (ks.filterMap intK) := by unfold rowOf; rw [he]; exact if_pos hk
        obtain ⟨o1, o2, o3⟩ := row_ok (hB.wf.ok t _ he) hk
        have hlen : ks.length = (ks.filterMap intK).length := by conv => lhs; rw [o1]; rw [List.length_map]
        rw [decide_eq_true hk]
        refine iteT ?_
        cases n with
        | none =>
          have e1 : (rowN es t none).isSome = true := by unfold rowN; rw [hro]; simp
          exact ⟨_, rfl, rfl, _, rfl, iteT (hrest _ _ ⟨by rw [e1]; rfl, rfl⟩)⟩
        | some m =>
          refine ⟨_, rfl, rfl, _, rfl, iteF ?_⟩
          refine ⟨_, rfl, B.b, B.dx, _, rfl, hB.ins, rfl, _, rfl, B, _, es, .int (t : Nat), "int", rfl, hB, hT, fun i ei hi y hy => ?_, fun h => hno h⟩
          have ei : t = i := by have := V.int.inj ei; omega
          subst ei
          obtain ⟨e, p, he', rfl, hp⟩ := hy
          rw [he] at he'
          obtain rfl := Option.some.inj he'
          refine ⟨p, _, rfl, .inr (.of hp), _, rfl, rfl, hrest _ _ ⟨?_, rfl⟩⟩
          have e1 : (rowN es t (some m)).isSome = decide (V.int ((((ks.map kV).length : Nat) : Int)) = V.int (m : Nat)) := by
            unfold rowN
            rw [hro]
            dsimp only
            rw [List.length_map]
            by_cases hm : (ks.filterMap intK).length = m
            · rw [if_pos (by intro x hx; cases hx; exact hm), decide_eq_true (by rw [hlen, hm])]
              rfl
            · rw [if_neg (fun z => hm (z m rfl)), decide_eq_false (fun z => hm (by have := V.int.inj z; omega))]
              rfl
          rw [e1]
          rfl
      · have e1 : (rowN es t n).isSome = false := by
          unfold rowN rowOf
          rw [he]
          dsimp only
          rw [if_neg hk]
          rfl
        rw [decide_eq_false hk]
        exact iteF (hrest _ _ ⟨by rw [e1]; rfl, rfl⟩)
end
end L2.Bk
end
section
set_option Elab.async false
set_option linter.all false
set_option maxRecDepth 100000
set_option maxHeartbeats 4000000
/-! What a term tells of a tree. -/
namespace L2.Bk
open L2.My PySem PySem.Spec PyProof.Rows
abbrev nInt (is : List Nat) : List Int := is.map fun (i : Nat) => (i : Int)
/-- a leaf's term -/
def LeafT (es : List Ent) (i : Nat) (l : Lf) : Prop := match l with
  | none => es[i]? = some (numbE 0)
  | some (z, k) => ∃ a : Nat, es[i]? = some (rowE [(a : Int), k]) ∧ es[a]? = some (nameE z)
/-- numbers' terms -/
def NumsT (es : List Ent) (js xs : List Nat) : Prop := Paired (fun (j x : Nat) => es[j]? = some (numbE (x : Nat))) js xs
/-- a node's term -/
def NodeT (es : List Ent) (i : Nat) (n : Nd) : Prop := ∃ (a b c : Nat) (js : List Nat), es[i]? = some (rowE [(a : Int), (b : Int), n.2.1, (c : Int)]) ∧ es[a]? = some (numbE (n.1.1 : Nat)) ∧ es[b]? = some (numbE (n.1.2 : Nat)) ∧ es[c]? = some (rowE (nInt js)) ∧ NumsT es js n.2.2
/-- a tree's term -/
def TreeT (es : List Ent) (t : Nat) (h : Nat) (ls : List Lf) (ns : List Nd) : Prop := ∃ (a b c d : Nat) (is js : List Nat), es[t]? = some (rowE [(a : Int), (b : Int), (c : Int), (d : Int)]) ∧ es[a]? = some (nameE "tree") ∧ es[b]? = some (numbE (h : Nat)) ∧ es[c]? = some (rowE (nInt is)) ∧ Paired (LeafT es) is ls ∧ es[d]? = some (rowE (nInt js)) ∧ Paired (NodeT es) js ns
theorem pre_get {es es' : List Ent} (p : es <+: es') {i : Nat} {e : Ent} (h : es[i]? = some e) : es'[i]? = some e := by
  obtain ⟨r, rfl⟩ := p
  rw [List.getElem?_append_left (List.getElem?_eq_some_iff.mp h).1]
  exact h
theorem pairedM {α β : Type} {R R' : α → β → Prop} {xs : List α} {ys : List β} (h : Paired R xs ys) (f : ∀ x y, R x y → R' x y) : Paired R' xs ys := by
  induction h with
  | nil => exact .nil
  | cons r _ ih => exact .cons (f _ _ r) ih
theorem pairedU {α β : Type} {R : α → β → Prop} (u : ∀ x x' y, R x y → R x' y → x = x') : ∀ {xs xs' : List α} {ys : List β}, Paired R xs ys → Paired R xs' ys → xs = xs'
  | _, _, _, .nil, .nil => rfl
  | _, _, _, .cons r h, .cons r' h' => by rw [u _ _ _ r r', pairedU u h h']
theorem get_u {es : List Ent} (nd : es.Nodup) {i j : Nat} {e : Ent} (h1 : es[i]? = some e) (h2 : es[j]? = some e) : i = j := by
  have e1 := numE_some nd h1
  rw [numE_some nd h2] at e1
  exact (Option.some.inj e1).symm
section
variable {es es' : List Ent} (p : es <+: es')
include p
theorem LeafT.pre {i : Nat} {l : Lf} (h : LeafT es i l) : LeafT es' i l := by
  cases l with
  | none => exact pre_get p h
  | some q =>
    obtain ⟨a, h1, h2⟩ := h
    exact ⟨a, pre_get p h1, pre_get p h2⟩
theorem NumsT.pre {js xs : List Nat} (h : NumsT es js xs) : NumsT es' js xs := pairedM h fun _ _ r => pre_get p r
theorem NodeT.pre {i : Nat} {n : Nd} (h : NodeT es i n) : NodeT es' i n := by
  obtain ⟨a, b, c, js, h1, h2, h3, h4, h5⟩ := h
  exact ⟨a, b, c, js, pre_get p h1, pre_get p h2, pre_get p h3, pre_get p h4, h5.pre p⟩
theorem TreeT.pre {t h : Nat} {ls : List Lf} {ns : List Nd} (x : TreeT es t h ls ns) : TreeT es' t h ls ns := by
  obtain ⟨a, b, c, d, is, js, h1, h2, h3, h4, h5, h6, h7⟩ := x
  exact ⟨a, b, c, d, is, js, pre_get p h1, pre_get p h2, pre_get p h3, pre_get p h4, pairedM h5 fun _ _ r => r.pre p, pre_get p h6, pairedM h7 fun _ _ r => r.pre p⟩
end
section
variable {es : List Ent} (nd : es.Nodup)
include nd
theorem LeafT.uniq {i j : Nat} {l : Lf} (h1 : LeafT es i l) (h2 : LeafT es j l) : i = j := by
  cases l with
  | none => exact get_u nd h1 h2
  | some q =>
    obtain ⟨a, x1, x2⟩ := h1
    obtain ⟨b, y1, y2⟩ := h2
    obtain rfl := get_u nd x2 y2
    exact get_u nd x1 y1
theorem NumsT.uniq {js ks xs : List Nat} (h1 : NumsT es js xs) (h2 : NumsT es ks xs) : js = ks := pairedU (R := fun (j x : Nat) => es[j]? = some (numbE (x : Nat))) (fun _ _ _ a b => get_u nd a b) h1 h2
theorem NodeT.uniq {i j : Nat} {n : Nd} (h1 : NodeT es i n) (h2 : NodeT es j n) : i = j := by
  obtain ⟨a, b, c, js, x1, x2, x3, x4, x5⟩ := h1
  obtain ⟨a', b', c', js', y1, y2, y3, y4, y5⟩ := h2
  obtain rfl := get_u nd x2 y2
  obtain rfl := get_u nd x3 y3
  obtain rfl := NumsT.uniq nd x5 y5
  obtain rfl := get_u nd x4 y4
  exact get_u nd x1 y1
theorem TreeT.uniq {i j h : Nat} {ls : List Lf} {ns : List Nd} (h1 : TreeT es i h ls ns) (h2 : TreeT es j h ls ns) : i = j := by
  obtain ⟨a, b, c, d, is, js, x1, x2, x3, x4, x5, x6, x7⟩ := h1
  obtain ⟨a', b', c', d', is', js', y1, y2, y3, y4, y5, y6, y7⟩ := h2
  obtain rfl := get_u nd x2 y2
  obtain rfl := get_u nd x3 y3
  obtain rfl := pairedU (R := LeafT es) (fun _ _ _ a b => LeafT.uniq nd a b) x5 y5
  obtain rfl := get_u nd x4 y4
  obtain rfl := pairedU (R := NodeT es) (fun _ _ _ a b => NodeT.uniq nd a b) x7 y7
  obtain rfl := get_u nd x6 y6
  exact get_u nd x1 y1
end
end L2.Bk
end
section
set_option Elab.async false
set_option linter.all false
set_option maxRecDepth 100000
set_option maxHeartbeats 4000000
/-! Trees that grow: orders of nodes, leaves. -/
namespace L2.My
open PySem PySem.Spec PyProof.Rows PySem.W
/-! ### the order of nodes -/
def kl (p q : Nat × Nat) : Prop := p.1 < q.1 ∨ p.1 = q.1 ∧ p.2 < q.2
theorem kl_trans {p q r : Nat × Nat} (a : kl p q) (b : kl q r) : kl p r := by unfold kl at *; omega
theorem kl_ne {p q : Nat × Nat} (a : kl p q) : p ≠ q := by rintro rfl; unfold kl at a; omega
theorem lex2 (a b c d : Int) : HT.lexLt [a, b] [c, d] = decide (a < c ∨ a = c ∧ b < d) := by
  rw [HT.lexLt_cons, HT.lexLt_cons, HT.lexLt_nil_nil]
  by_cases h1 : a = c
  · by_cases h2 : b = d
    · simp [h1, h2]
    · simp [h1, h2]
  · simp [h1]
theorem lex_kl (m n : Nd) : HT.lexLt (nI2 m) (nI2 n) = true ↔ kl m.1 n.1 := by
  unfold nI2 kl
  rw [lex2, decide_eq_true_iff]
  omega
theorem asc_of_pw {α : Type} {lt : α → α → Bool} : ∀ {l : List α}, l.Pairwise (fun a b => lt a b = true) → ascBy lt l = true
  | [], _ => rfl
  | [x], _ => rfl
  | x :: y :: r, h => by
    obtain ⟨h1, h2⟩ := List.pairwise_cons.mp h
    show (lt x y && ascBy lt (y :: r)) = true
    rw [h1 y List.mem_cons_self, asc_of_pw h2]; rfl
theorem pw_of_asc {α : Type} {lt : α → α → Bool} (tr : ∀ a b c, lt a b = true → lt b c = true → lt a c = true) : ∀ {l : List α}, ascBy lt l = true → l.Pairwise (fun a b => lt a b = true)
  | [], _ => .nil
  | [x], _ => List.pairwise_singleton _ _
  | x :: y :: r, h => by
    obtain ⟨h1, h2⟩ := Bool.and_eq_true_iff.mp (show (lt x y && ascBy lt (y :: r)) = true from h)
    have ih := pw_of_asc tr h2
    refine List.pairwise_cons.mpr ⟨fun z hz => ?_, ih⟩
    rcases List.mem_cons.mp hz with rfl | hz
    · exact h1
    · exact tr _ _ _ h1 ((List.pairwise_cons.mp ih).1 z hz)
abbrev PwK (ns : List Nd) : Prop := ns.Pairwise fun m n => kl m.1 n.1
theorem pwK_iff {ns : List Nd} : ascBy HT.lexLt (ns.map nI2) = true ↔ PwK ns := by
  constructor
  · intro h
    have e : ascBy (fun m n : Nd => HT.lexLt (nI2 m) (nI2 n)) ns = true := by
      induction ns with
      | nil => rfl
      | cons x r ih =>
        cases r with
        | nil => rfl
        | cons y r =>
          obtain ⟨h1, h2⟩ := Bool.and_eq_true_iff.mp (show (HT.lexLt (nI2 x) (nI2 y) && ascBy HT.lexLt ((y :: r).map nI2)) = true from h)
          show (HT.lexLt (nI2 x) (nI2 y) && ascBy _ (y :: r)) = true
          rw [h1, ih h2]; rfl
    exact (pw_of_asc (fun a b c x y => (lex_kl a c).mpr (kl_trans ((lex_kl a b).mp x) ((lex_kl b c).mp y))) e).imp fun h => (lex_kl _ _).mp h
  · intro h
    exact asc_of_pw (List.pairwise_map.mpr (h.imp fun h => (lex_kl _ _).mpr h))
theorem pw_len : ∀ {l : List Nat} {N : Nat}, l.Pairwise (· < ·) → (∀ x ∈ l, x < N) → l.length ≤ N := fun {l N} h hb => by
  have e := asc_len (N := (N : Int)) (lo := 0) (asc_pw h) (fun x hx => by
    obtain ⟨j, hj, rfl⟩ := List.mem_map.mp hx
    have := hb j hj
    omega) (by omega)
  rw [List.length_map] at e
  omega
theorem nds_len {h : Nat} {ls : List Lf} {ns : List Nd} (h8 : h ≤ 8) (g : ∀ n ∈ ns, RowOk h ls n) (p : PwK ns) : ns.length ≤ 1152 := by
  have e := pw_len (l := ns.map fun n => n.1.1 * 128 + n.1.2) (N := 1152) (List.pairwise_map.mpr (p.imp_of_mem fun {m n} hm hn k => by
    have b1 := (g m hm).b128 h8
    have b2 := (g n hn).b128 h8
    unfold kl at k
    omega)) (fun x hx => by
    obtain ⟨n, hn, rfl⟩ := List.mem_map.mp hx
    have b1 := (g n hn).b128 h8
    have b2 := (g n hn).lh
    show n.1.1 * 128 + n.1.2 < 1152
    omega)
  rwa [List.length_map] at e
/-! ### leaves -/
theorem wds_app (l m : List Lf) : wds (l ++ m) = wds l ++ wds m := by
  unfold wds
  rw [List.filterMap_append, List.map_append]
theorem set_split {α : Type} {l : List α} {j : Nat} {x y : α} (h : l[j]? = some x) : l = l.take j ++ x :: l.drop (j + 1) ∧ l.set j y = l.take j ++ y :: l.drop (j + 1) := by
  obtain ⟨hj, e⟩ := List.getElem?_eq_some_iff.mp h
  refine ⟨?_, List.set_eq_take_append_cons_drop.trans (by rw [if_pos hj])⟩
  rw [← e]
  exact (List.take_append_drop j l).symm.trans (by rw [List.drop_eq_getElem_cons hj])
theorem wds_set {ls : List Lf} {j : Nat} {x y : Lf} (h : ls[j]? = some x) : ∃ a c, wds ls = a ++ (wds [x] ++ c) ∧ wds (ls.set j y) = a ++ (wds [y] ++ c) := by
  obtain ⟨e1, e2⟩ := set_split (y := y) h
  refine ⟨wds (ls.take j), wds (ls.drop (j + 1)), ?_, ?_⟩
  · conv => lhs; rw [e1]
    rw [wds_app, show x :: ls.drop (j + 1) = [x] ++ ls.drop (j + 1) from rfl, wds_app]
  · rw [e2, wds_app, show y :: ls.drop (j + 1) = [y] ++ ls.drop (j + 1) from rfl, wds_app]
theorem mem_set' {α : Type} {l : List α} {j : Nat} {x y : α} (h : x ∈ l.set j y) : x ∈ l ∨ x = y := (List.mem_or_eq_of_mem_set h)
theorem get_set {α : Type} {l : List α} {j i : Nat} {y : α} (h : i ≠ j) : (l.set j y)[i]? = l[i]? := List.getElem?_set_ne (Ne.symm h)
theorem get_set' {α : Type} {l : List α} {j : Nat} {x y : α} (h : l[j]? = some x) : (l.set j y)[j]? = some y := by
  obtain ⟨hj, _⟩ := List.getElem?_eq_some_iff.mp h
  rw [List.getElem?_set_self hj]
end L2.My
end
section
set_option Elab.async false
set_option linter.all false
set_option maxRecDepth 100000
set_option maxHeartbeats 4000000
/-! All who are aside, together. -/
namespace L2.My
open PySem PySem.Spec PyProof.Rows PySem.W
def asN (ns : List Nd) : Nat := (ns.map fun n => n.2.2.length).sum
theorem asN_snoc (ns : List Nd) (n : Nd) : asN (ns ++ [n]) = asN ns + n.2.2.length := by
  unfold asN
  rw [List.map_append, List.sum_append]
  simp
theorem as_sum {h : Nat} {ls : List Lf} {ns : List Nd} (d : DrT h ls ns) : asN ns ≤ 2304 := by
  have l256 := d.l256
  have h8 := d.h8
  have lt : ∀ n ∈ ns, ∀ j ∈ n.2.2, j < 256 := fun n hn j hj => by
    obtain ⟨_, z, hz⟩ := (d.gn n hn).as j hj
    have := (List.getElem?_eq_some_iff.mp hz).1
    omega
  have nd : (ns.flatMap fun n => n.2.2.map fun j => n.1.1 * 256 + j).Nodup := by
    refine List.pairwise_flatMap.mpr ⟨fun n hn => List.pairwise_map.mpr ((d.gn n hn).pw.imp fun h => by omega), ?_⟩
    refine (pwK_iff.mp d.asc).imp_of_mem fun {m n} hm hn k x hx y hy e => ?_
    obtain ⟨j, hj, rfl⟩ := List.mem_map.mp hx
    obtain ⟨j', hj', rfl⟩ := List.mem_map.mp hy
    have a1 := lt m hm j hj
    have a2 := lt n hn j' hj'
    have e1 : m.1.1 = n.1.1 := by omega
    have e2 : j = j' := by omega
    subst e2
    have b1 := ((d.gn m hm).as j hj).1
    have b2 := ((d.gn n hn).as j hj').1
    exact kl_ne k (Prod.ext e1 (by rw [← b1, ← b2, e1]))
  have le := nd.length_le_of_subset (l₂ := List.range 2304) fun x hx => by
    obtain ⟨n, hn, hx⟩ := List.mem_flatMap.mp hx
    obtain ⟨j, hj, rfl⟩ := List.mem_map.mp hx
    have := lt n hn j hj
    have := (d.gn n hn).lh
    exact List.mem_range.mpr (by omega)
  rw [List.length_flatMap, List.length_range] at le
  unfold asN
  have e : (ns.map fun n => (n.2.2.map fun j => n.1.1 * 256 + j).length) = ns.map fun n => n.2.2.length := List.map_congr_left fun n _ => List.length_map _
  rw [e] at le
  exact le
end L2.My
end
section
set_option Elab.async false
set_option linter.all false
set_option maxRecDepth 100000
set_option maxHeartbeats 4000000
/-! No more than 256 nodes. -/
namespace L2.My
open PySem PySem.Spec PyProof.Rows PySem.W
theorem pow_apart {a b i j : Nat} (hi : i < 2 ^ a) (hj : j < 2 ^ b) (e : 2 ^ a + i = 2 ^ b + j) : a = b ∧ i = j := by
  have key : ∀ {a b i j : Nat}, i < 2 ^ a → 2 ^ a + i = 2 ^ b + j → ¬ a < b := fun {a b i j} hi e hab => by
    have h1 : 2 ^ (a + 1) ≤ 2 ^ b := Nat.pow_le_pow_right (by decide) hab
    rw [Nat.pow_succ] at h1
    omega
  have h1 := key hi e
  have h2 := key hj e.symm
  have : a = b := by omega
  subst this
  exact ⟨rfl, by omega⟩
theorem nds256 {h : Nat} {ls : List Lf} {ns : List Nd} (d : DrT h ls ns) : ns.length ≤ 256 := by
  have h8 := d.h8
  have nd : (ns.map fun n => 2 ^ (h - n.1.1) + n.1.2).Nodup := by
    refine List.pairwise_map.mpr ((pwK_iff.mp d.asc).imp_of_mem fun {m n} hm hn k e => ?_)
    have a1 := d.gn m hm
    have a2 := d.gn n hn
    obtain ⟨e1, e2⟩ := pow_apart a1.at' a2.at' e
    have := a1.lh
    have := a2.lh
    exact kl_ne k (Prod.ext (by omega) e2)
  have le := nd.length_le_of_subset (l₂ := List.range 256) fun x hx => by
    obtain ⟨n, hn, rfl⟩ := List.mem_map.mp hx
    have a := d.gn n hn
    have h1 := a.at'
    have h2 := a.l1
    have h3 : 2 ^ (h - n.1.1) ≤ 2 ^ 7 := Nat.pow_le_pow_right (by decide) (by omega)
    have h4 : (2 : Nat) ^ 7 = 128 := by decide
    exact List.mem_range.mpr (by omega)
  rw [List.length_map, List.length_range] at le
  exact le
end L2.My
end
section
set_option Elab.async false
set_option linter.all false
set_option maxRecDepth 100000
set_option maxHeartbeats 4000000
/-! tree_term. -/
namespace L2.Bk
open L2.My PySem PySem.Spec PyProof.Rows
abbrev sTt : Stmt := top 38
theorem tt_use {t : TT} {σ : St} {H : Hp} {Q : Bool → Hp → Prop} (Pm : Bool → Hp → Prop) (h : ∀ c H', Pm c H' → Q c H') (ht : (∀ c H', Pm c H' → Q c H') → t σ H Q) : t σ H Q := ht h
theorem te_use {t : TE} {σ : St} {H : Hp} {Q : VK} (Pm : V → Hp → Prop) (h : ∀ v H', Pm v H' → Q v H') (ht : (∀ v H', Pm v H' → Q v H') → t σ H Q) : t σ H Q := ht h
theorem paired_memL {α β : Type} {R : α → β → Prop} {xs : List α} {ys : List β} (h : Paired R xs ys) {x : α} (hx : x ∈ xs) : ∃ y, R x y := by
  induction h with
  | nil => cases hx
  | cons r _ ih =>
    rcases List.mem_cons.mp hx with rfl | hx
    · exact ⟨_, r⟩
    · exact ih hx
theorem word_name {z : Str} (h : wordB z = true) : nameV (.str z) = true := by
  unfold wordB at h
  rw [Bool.and_eq_true, Bool.and_eq_true, decide_eq_true_eq, decide_eq_true_eq, List.all_eq_true] at h
  show (decide (z.length ≤ 40) && z.cps.toList.all goodC) = true
  rw [Bool.and_eq_true, decide_eq_true_eq, List.all_eq_true]
  refine ⟨by omega, fun c hc => ?_⟩
  have := h.2.2 c hc
  unfold signB at this
  unfold goodC
  rw [Bool.and_eq_true, decide_eq_true_eq, decide_eq_true_eq] at this ⊢
  omega
theorem foot_there {P : Program} {w : World} {H : Hp} {C : Addr} {B : BP} {n : Int} {es : List Ent} (h : BookN P w H C B n es) {a : Addr} (ha : a ∈ B.foot) : H a ≠ none := by
  unfold BP.foot at ha
  simp only [List.mem_cons, List.not_mem_nil, or_false] at ha
  rcases ha with rfl | rfl | rfl | rfl | rfl
  · rw [h.ins]; simp
  · rw [h.kinds]; simp
  · obtain ⟨ps, e, _⟩ := h.parts
    rw [e]; simp
  · obtain ⟨ds, e, _⟩ := h.deps
    rw [e]; simp
  · obtain ⟨kvs, ⟨e, _⟩, _⟩ := h.nums
    rw [e]; simp
def lockL (ls : List Lf) (ns : List Nd) : List Int := (ls.filterMap id).map (·.2) ++ ns.map (·.2.1)
/-- a small entry -/
def Tiny (L : Nat) (e : Ent) : Prop := (∀ is : List Int, e = rowE is → is.length ≤ L) ∧ ∀ i : Int, e = numbE i → i ≤ L
/-- what is new is small -/
def Nw (L : Nat) (es es' : List Ent) : Prop := ∀ e ∈ es', e ∈ es ∨ Tiny L e
theorem ne_nr {i : Int} {is : List Int} (h : numbE i = rowE is) : False := absurd (congrArg (fun e : Ent => e.1) h) (by show ¬ (("number" : Str) = "row"); decide +kernel)
theorem ne_zr {z : Str} {is : List Int} (h : nameE z = rowE is) : False := absurd (congrArg (fun e : Ent => e.1) h) (by show ¬ (("name" : Str) = "row"); decide +kernel)
theorem ne_zn {z : Str} {i : Int} (h : nameE z = numbE i) : False := absurd (congrArg (fun e : Ent => e.1) h) (by show ¬ (("name" : Str) = "number"); decide +kernel)
theorem inlI : ∀ {is js : List Int}, (is.map Sum.inl : List Key) = js.map Sum.inl → is = js
  | [], [], _ => rfl
  | [], _ :: _, h => by cases h
  | _ :: _, [], h => by cases h
  | i :: r, j :: q, h => by
    rw [List.map_cons, List.map_cons] at h
    obtain ⟨h1, h2⟩ := List.cons.inj h
    rw [Sum.inl.inj h1, inlI h2]
theorem Tiny.name {L : Nat} {z : Str} : Tiny L (nameE z) := ⟨fun is h => (ne_zr h).elim, fun i h => (ne_zn h).elim⟩
theorem Tiny.numb {L : Nat} {i : Int} (h : i ≤ L) : Tiny L (numbE i) := ⟨fun is h => (ne_nr h).elim, fun j e => by
  have : ([.inl i] : List Key) = [.inl j] := congrArg (fun e : Ent => e.2) e
  rw [← Sum.inl.inj (List.cons.inj this).1]
  exact h⟩
theorem Tiny.row {L : Nat} {is : List Int} (h : is.length ≤ L) : Tiny L (rowE is) := ⟨fun js e => by
  rw [← inlI (congrArg (fun e : Ent => e.2) e : (is.map Sum.inl : List Key) = js.map Sum.inl)]
  exact h, fun i e => (ne_nr e.symm).elim⟩
theorem Nw.refl {L : Nat} {es : List Ent} : Nw L es es := fun _ h => .inl h
theorem put_two {es es' : List Ent} {e : Ent} {i : Nat} (p : es <+: es') (g : es'[i]? = some e) (h : e ∈ es → es' = es) (l : es'.length ≤ es.length + 1) : (e ∈ es ∧ es' = es) ∨ (e ∉ es ∧ es' = es ++ [e]) := by
  by_cases hm : e ∈ es
  · exact .inl ⟨hm, h hm⟩
  · refine .inr ⟨hm, ?_⟩
    obtain ⟨r, rfl⟩ := p
    have hi := (List.getElem?_eq_some_iff.mp g).1
    have hge : es.length ≤ i := Nat.le_of_not_lt fun z => by
      rw [List.getElem?_append_left z] at g
      exact hm (List.mem_of_getElem? g)
    rw [List.length_append] at l hi
    match r, l, hi, g with
    | [], _, hi, _ => exact absurd hi (by rw [List.length_nil]; omega)
    | [x], _, hi, g =>
      have : i = es.length := by rw [List.length_singleton] at hi; omega
      rw [this, List.getElem?_append_right (Nat.le_refl _), Nat.sub_self] at g
      have : some x = some e := g
      rw [Option.some.inj this]
    | x :: y :: r, l, _, _ => exact absurd l (by simp only [List.length_cons]; omega)
theorem Nw.put {L : Nat} {es es1 es2 : List Ent} {e : Ent} {i : Nat} (n : Nw L es es1) (p : es1 <+: es2) (g : es2[i]? = some e) (h : e ∈ es1 → es2 = es1) (l : es2.length ≤ es1.length + 1) (t : Tiny L e) : Nw L es es2 := fun x hx => by
  rcases put_two p g h l with ⟨_, rfl⟩ | ⟨_, rfl⟩
  · exact n x hx
  · rcases List.mem_append.mp hx with hx | hx
    · exact n x hx
    · rw [List.mem_singleton.mp hx]; exact .inr t
def spTt (P : Program) (w : World) (C CT NT : Addr) : Sp := fun vs H Q E => ∃ (B : BP) (es : List Ent) (x dx la na : Addr) (h : Nat) (ls : List Lf) (ns : List Nd), vs = [.ref B.b, .ref x] ∧ BookAt P w H C B es ∧ es.length ≤ 20000 ∧ TreeAt H CT x dx la na h ls ns ∧ DrT h ls ns ∧ (∀ p ∈ [x, la, na], p ∉ B.foot) ∧
  ((∃ k ∈ lockL ls ns, (es.length : Nat) ≤ k) → ∀ H', Same H H' → E (.ref NT) none H') ∧
  ((∀ k ∈ lockL ls ns, k < (es.length : Nat)) → ∀ H' es' t, BL B.foot H H' → BookAt P w H' C B es' → es <+: es' → TreeT es' t h ls ns → ((∃ t0, TreeT es t0 h ls ns) → es' = es) → es'.length ≤ es.length + 7500 → Nw 256 es es' → Q (.int (t : Nat)) H')
section
variable {P : Program} {w : World} {K : PySem.W.Frag} {mg : Str → Option Value} {base : Heap} {C CT NT : Addr}
abbrev nTt : List Str := ["book", "tree", "member", "locks", "lock", "leaves", "blank", "nodes", "node", "aside", "level", "at", "head", "height", "row", "leaf"]
theorem scTt : FnScope nTt ["book", "tree"] (defScope sTt) := ⟨rfl, rfl, rfl, by decide +kernel, rfl, by decide +kernel, by decide +kernel⟩
theorem ok_tt {f : Addr} {fd : FuncData} {k : Nat} (F : Fun K "tree_term" "tree_term" sTt f fd) (T : Tx mg) (c : BkC K C) (ct : TrC K CT) (hNT : Ini0 P w K mg base NT) (gNT : mg "NoTerm" = some (.ref NT)) (cS : MthX P w K mg base C (k + 1) "size" ["self"] (spSize C)) (cB : Cal P w K mg base (k + 1) "is_below" ["bound", "thing"] L2.Bk.spBelow)
    (cN : Cal P w K mg base (k + 5) "name_term" ["book", "text"] (spNt P w C)) (cU : Cal P w K mg base (k + 5) "number_term" ["book", "number"] (spUt P w C)) (cR : Cal P w K mg base (k + 5) "row_term" ["book", "items"] (spRt P w C)) : FnOk P w K mg base (CX P w) (k + 6) f fd ["book", "tree"] (spTt P w C CT NT) := by
  refine F.okX scTt (fun vs H Q E h => ?_) (fun cdv A outer s H vs Q E hr h => ?_)
  · obtain ⟨B, es, x, dx, la, na, h, ls, ns, rfl, _⟩ := h
    rfl
  · obtain ⟨B, es, x, dx, la, na, h, ls, ns, rfl, hB, hl, hT, d, hx, qe, q⟩ := h
    have tk := takes_of (X := cxOf (CX P w) P w K mg base nTt "tree_term" (defScope sTt) f cdv A outer s H E) (E := E) rfl rfl rfl rfl
    refine ⟨_, (pss_cons (ps_set (i := 3) scTt.nd rfl (Or.inl rfl) (pe_op op_cat (pe_lc (own := [("member", 2)]) (g := gName 2) (te := tOp (rIxT K) (tVar 2) (tC (.int 1))) (tt := tTest (tOp rNotN (tVar 2) (tC .non))) rfl scTt.nd (pi_tup (pe_fld (pv 1) rfl)) (blkOk_by (N := nTt) (sc := defScope sTt) (by decide +kernel)) (fun _ _ _ _ _ => pg_name (i := 2) scTt.nd rfl (Or.inl rfl)) (fun _ _ _ _ _ => (pts_one (pt_cmpR op_notN (pv 2) pe_non (nomark _)))) (fun _ _ _ _ _ => (pe_ix ix_tup (pv 2) pe_int (fun _ _ => rfl)))) (pe_lc (own := [("row", 14)]) (g := gName 14) (te := tOp (rIxT K) (tVar 14) (tC (.int 1))) rfl scTt.nd (pi_tup (pe_fld (pv 1) rfl)) (blkOk_by (N := nTt) (sc := defScope sTt) (by decide +kernel)) (fun _ _ _ _ _ => pg_name (i := 14) scTt.nd rfl (Or.inl rfl)) (fun _ _ _ _ _ => pts_nil) (fun _ _ _ _ _ => (pe_ix ix_tup (pv 14) pe_int (fun _ _ => rfl)))))) (pss_cons (ps_if (pt_not (pt_val (pe_callB (cr_all rfl) (by rfl) T.all_ (by decide +kernel) (pa_cons (pe_lc (own := [("lock", 4)]) (g := gName 4) (te := tCall L2.Bk.spBelow [] E0 (tCons (tMeth C "size" (spSize C) [] E0 (tVar 0) tNil) (tCons (tVar 4) tNil))) rfl scTt.nd (pi_list (pv 3)) (blkOk_by (N := nTt) (sc := defScope sTt) (by decide +kernel)) (fun _ _ _ _ _ => pg_name (i := 4) scTt.nd rfl (Or.inl rfl)) (fun _ _ _ _ _ => pts_nil) (fun _ _ _ _ _ => (pe_c cB hr (by omega) (by rfl) (pa_cons (pe_meth0 (pv 0) c.cls cS.m cS.F (hr.mono (by omega)) cS.b .nil pass_no) (pa_cons (pv 4) pa_nil))))) pa_nil)))) (pss_one (ps_raise rfl tk (pmk_no hNT rfl (hr.mono (by omega)) (by rfl) gNT))) pss_nil) (pss_cons (ps_set (i := 5) scTt.nd rfl (Or.inl rfl) (pe_lst pa_nil)) (pss_cons (ps_for (passes_of rfl) rfl (pi_tup (pe_fld (pv 1) rfl)) (pg_name (i := 2) scTt.nd rfl (Or.inl rfl)) (pss_cons (ps_set (i := 6) scTt.nd rfl (Or.inl rfl) (pe_cmpR op_isN (pv 2) pe_non (nomark _))) (pss_one (ps_expr (pe_bm PySem.F.plainAttrs_list PySem.F.slot_list_append PySem.F.type_list_append mt_append (pv 5) (pa_cons (pe_ifExp (pt_val (pv 6)) (pe_c cU hr (by omega) (by rfl) (pa_cons (pv 0) (pa_cons pe_int pa_nil))) (pe_c cR hr (by omega) (by rfl) (pa_cons (pv 0) (pa_cons (pe_tup (pa_cons (pe_c cN hr (by omega) (by rfl) (pa_cons (pv 0) (pa_cons (pe_ix ix_tup (pv 2) pe_int (fun _ _ => rfl)) pa_nil))) (pa_cons (pe_ix ix_tup (pv 2) pe_int (fun _ _ => rfl)) pa_nil))) pa_nil)))) pa_nil)))))) (pss_cons (ps_set (i := 7) scTt.nd rfl (Or.inl rfl) (pe_lst pa_nil)) (pss_cons (ps_for (passes_of rfl) rfl (pi_tup (pe_fld (pv 1) rfl)) (pg_tup rfl (pgs_cons (pg_name (i := 8) scTt.nd rfl (Or.inl rfl)) (pgs_cons (pg_name (i := 4) scTt.nd rfl (Or.inl rfl)) (pgs_cons (pg_name (i := 9) scTt.nd rfl (Or.inl rfl)) pgs_nil)))) (pss_cons (ps_par (i := 10) (j := 11) rfl scTt.nd rfl rfl (by decide) rfl rfl (pa_cons (pe_c cU hr (by omega) (by rfl) (pa_cons (pv 0) (pa_cons (pe_ix ix_tup (pv 8) pe_int (fun _ _ => rfl)) pa_nil))) (pa_cons (pe_c cU hr (by omega) (by rfl) (pa_cons (pv 0) (pa_cons (pe_ix ix_tup (pv 8) pe_int (fun _ _ => rfl)) pa_nil))) pa_nil)) rfl) (pss_one (ps_expr (pe_bm PySem.F.plainAttrs_list PySem.F.slot_list_append PySem.F.type_list_append mt_append (pv 7) (pa_cons (pe_c cR hr (by omega) (by rfl) (pa_cons (pv 0) (pa_cons (pe_tup (pa_cons (pv 10) (pa_cons (pv 11) (pa_cons (pv 4) (pa_cons (pe_c cR hr (by omega) (by rfl) (pa_cons (pv 0) (pa_cons (pe_lc (own := [("leaf", 15)]) (g := gName 15) (te := tCall (spUt P w C) [] E0 (tCons (tVar 0) (tCons (tVar 15) tNil))) rfl scTt.nd (pi_tup (pv 9)) (blkOk_by (N := nTt) (sc := defScope sTt) (by decide +kernel)) (fun _ _ _ _ _ => pg_name (i := 15) scTt.nd rfl (Or.inl rfl)) (fun _ _ _ _ _ => pts_nil) (fun _ _ _ _ _ => (pe_c cU hr (by omega) (by rfl) (pa_cons (pv 0) (pa_cons (pv 15) pa_nil))))) pa_nil))) pa_nil))))) pa_nil))) pa_nil)))))) (pss_cons (ps_par (i := 12) (j := 13) rfl scTt.nd rfl rfl (by decide) rfl rfl (pa_cons (pe_c cN hr (by omega) (by rfl) (pa_cons (pv 0) (pa_cons pe_str pa_nil))) (pa_cons (pe_c cU hr (by omega) (by rfl) (pa_cons (pv 0) (pa_cons (pe_fld (pv 1) rfl) pa_nil))) pa_nil)) rfl) (pss_one (ps_ret (pe_c cR hr (by omega) (by rfl) (pa_cons (pv 0) (pa_cons (pe_tup (pa_cons (pv 12) (pa_cons (pv 13) (pa_cons (pe_c cR hr (by omega) (by rfl) (pa_cons (pv 0) (pa_cons (pv 5) pa_nil))) (pa_cons (pe_c cR hr (by omega) (by rfl) (pa_cons (pv 0) (pa_cons (pv 7) pa_nil))) pa_nil))))) pa_nil)))))))))))), ?_⟩
    obtain ⟨hxi, ⟨lv, hla, hlp⟩, ⟨wv, hna, hnp⟩⟩ := id hT
    have l256 := d.l256
    have hnl := d.nl
    have hlv := Paired.len hlp
    have hwv := Paired.len hnp
    refine ⟨_, rfl, x, CT, dx, _, _, rfl, hxi, ct.cls, ct.na _ (by simp), rfl, la, rfl, ⟨_, .of hla⟩, fun D nD => ?_⟩
    refine lc_it (walk_tup (xs := lv)) (fun i G => Same H G ∧ G D = some (.lst (((ls.take i).filterMap id).map fun q => V.int q.2))) ⟨same_upd nD, upd_same⟩ (fun i G _ hG => .of (hG.1 _ _ hla)) ?_ ?_
    · rintro i y G G' hi ⟨sm, hD⟩ ⟨rfl, hy⟩
      obtain ⟨l, hl2, hlf⟩ := Paired.at' hlp hy
      refine ⟨rfl, _, rfl, rfl, _, rfl, ?_⟩
      rw [nonN, lf_non hlf, take_snoc hl2, List.filterMap_append, List.map_append]
      cases l with
      | none => exact iteF ⟨sm, by rw [hD]; simp⟩
      | some p =>
        obtain ⟨xa, rfl, hxa⟩ := hlf
        refine iteT ⟨_, rfl, xa, _, _, .int p.2, rfl, rfl, .of (sm _ _ hxa), atI_nat (j := 1) rfl, _, hD, ?_, same_put sm nD, ?_⟩
        · rw [List.length_map]
          have := List.length_filterMap_le id (ls.take i)
          rw [List.length_take] at this
          exact Nat.lt_of_le_of_lt (show ((ls.take i).filterMap id).length ≤ 256 by omega) (by decide)
        · rw [upd_same]; simp
    rintro G2 ⟨s2, hD⟩
    rw [hlv, List.take_length] at hD
    refine ⟨_, rfl, x, CT, dx, _, _, rfl, s2 _ _ hxi, ct.cls, ct.na _ (by simp), rfl, na, rfl, ⟨_, .of (s2 _ _ hna)⟩, fun D2 nD2 => ?_⟩
    refine lc_it (walk_tup (xs := wv)) (tt := tYes) (fun i G => Same G2 G ∧ G D2 = some (.lst ((ns.take i).map fun n => V.int n.2.1))) ⟨same_upd nD2, upd_same⟩ (fun i G _ hG => .of (hG.1 _ _ (s2 _ _ hna))) ?_ ?_
    · rintro i y G G' hi ⟨sm, hD2⟩ ⟨rfl, hy⟩
      obtain ⟨n, hn, hnd⟩ := Paired.at' hnp hy
      obtain ⟨a, nda, ca, rfl, h1, h2, h3⟩ := id hnd
      refine ⟨rfl, ?_⟩
      refine ⟨_, rfl, a, _, _, .int n.2.1, rfl, rfl, .of (sm _ _ (s2 _ _ h1)), atI_nat (j := 1) rfl, _, hD2, ?_, same_put sm nD2, ?_⟩
      · rw [List.length_map, List.length_take]
        exact Nat.lt_of_le_of_lt (show min i ns.length ≤ 1152 by omega) (by decide)
      · rw [upd_same, take_snoc hn, List.map_append]
        rfl
    rintro G3 ⟨s3, hD2⟩
    rw [hwv, List.take_length] at hD2
    have hlen : (((ls.filterMap id).map fun q => V.int q.2).length) ≤ 256 := by
      rw [List.length_map]
      exact Nat.le_trans (List.length_filterMap_le _ _) l256
    refine ⟨D, D2, _, _, rfl, rfl, s3 _ _ hD, hD2, Nat.le_trans (show _ ≤ 1408 by rw [List.length_map (as := ns)]; omega) (by decide), fun Lk nLk => ?_⟩
    have eLk : ((ls.filterMap id).map fun q => V.int q.2) ++ (ns.map fun n => V.int n.2.1) = (lockL ls ns).map V.int := by
      unfold lockL
      rw [List.map_append, List.map_map, List.map_map]
      rfl
    rw [eLk]
    have u4 := same_upd (o := HO.lst ((lockL ls ns).map V.int)) nLk
    have hLk : (upd G3 Lk (.lst ((lockL ls ns).map V.int))) Lk = some (.lst ((lockL ls ns).map V.int)) := upd_same
    have s4 := (s2.trans s3).trans u4
    generalize upd G3 Lk (.lst ((lockL ls ns).map V.int)) = G4 at *
    dsimp only [gName]
    have hB4 : BookAt P w G4 C B es := hB.same s4
    refine seq_use (t := tIfS _ _ _) (fun σ G => σ = [some (.ref B.b), some (.ref x), none, some (.ref Lk), none, none, none, none, none, none, none, none, none, none, none, none] ∧ Same H G ∧ ∀ k ∈ lockL ls ns, k < (es.length : Nat)) ?_ (fun hrest => ?_)
    · rintro σ G5 ⟨rfl, s5, hlk⟩
      have q := q hlk
      have hB5 : BookAt P w G5 C B es := hB.same s5
      have hxf : x ∉ B.foot := hx x (by simp)
      have laf : la ∉ B.foot := hx la (by simp)
      have naf : na ∉ B.foot := hx na (by simp)
      refine ⟨Nat.zero_le _, fun Lv nLv => ?_⟩
      have u6 := same_upd (o := HO.lst []) nLv
      have hLv : (upd G5 Lv (.lst [])) Lv = some (.lst []) := upd_same
      have hB6 := hB5.same u6
      have s6 := s5.trans u6
      have nLvH := s5.free nLv
      generalize upd G5 Lv (.lst []) = G6 at *
      dsimp only [gName]
      refine seq_use (t := tFor _ _ _) (fun σ G => ∃ (y2 y6 : Option V) (es1 : List Ent) (is : List Nat), σ = [some (.ref B.b), some (.ref x), y2, some (.ref Lk), none, some (.ref Lv), y6, none, none, none, none, none, none, none, none, none] ∧ BL (Lv :: B.foot) G6 G ∧ BookAt P w G C B es1 ∧ es <+: es1 ∧ G Lv = some (.lst (is.map fun (i : Nat) => V.int (i : Nat))) ∧ Paired (LeafT es1) is ls ∧ ((∃ t0, TreeT es t0 h ls ns) → es1 = es) ∧ es1.length ≤ es.length + 512 ∧ Nw 256 es es1) ?_ (fun hrest => ?_)
      · rintro σ G ⟨y2, y6, es1, is, rfl, b1, hB1, pre1, hLv1, hpL, hsame1, hlen1, nw1⟩
        have nLvf : Lv ∉ B.foot := fun hm => foot_there hB5 hm nLv
        have tk1 : TK H G := (TK.same s6).trans (.bl b1 (fun p hp xs e => by
          rcases List.mem_cons.mp hp with rfl | hp
          · rw [hLv] at e; cases e
          · exact hB6.notup p hp xs e))
        refine ⟨Nat.zero_le _, fun Nv nNv => ?_⟩
        have u7 := same_upd (o := HO.lst []) nNv
        have hNv : (upd G Nv (.lst [])) Nv = some (.lst []) := upd_same
        have hB7 := hB1.same u7
        have nNvf : Nv ∉ B.foot := fun hm => foot_there hB1 hm nNv
        have nNL : Nv ≠ Lv := fun e => by rw [e, hLv1] at nNv; cases nNv
        have hLv7 := u7 _ _ hLv1
        have tk7 := tk1.trans (TK.same u7)
        have hxG : (upd G Nv (.lst [])) x = some (.ins CT dx [("height", .int (h : Nat)), ("leaves", .ref la), ("nodes", .ref na)]) := u7 _ _ (b1 _ _ (fun hm => by
          rcases List.mem_cons.mp hm with rfl | hm
          · rw [hxi] at nLvH; cases nLvH
          · exact hxf hm) (s6 _ _ hxi))
        have b7 : BL (Lv :: Nv :: B.foot) G6 (upd G Nv (.lst [])) := fun p o hp e => u7 _ _ (b1 p o (fun hm => hp (by
          rcases List.mem_cons.mp hm with rfl | hm
          · exact List.mem_cons_self
          · exact List.mem_cons_of_mem _ (List.mem_cons_of_mem _ hm))) e)
        generalize upd G Nv (.lst []) = G7 at *
        dsimp only [gName]
        refine seq_use (t := tFor _ _ _) (fun σ G => ∃ (y4 y8 y9 y10 y11 : Option V) (es2 : List Ent) (js : List Nat), σ = [some (.ref B.b), some (.ref x), y2, some (.ref Lk), y4, some (.ref Lv), y6, some (.ref Nv), y8, y9, y10, y11, none, none, none, none] ∧ BL (Nv :: B.foot) G7 G ∧ BookAt P w G C B es2 ∧ es1 <+: es2 ∧ G Nv = some (.lst (js.map fun (i : Nat) => V.int (i : Nat))) ∧ Paired (NodeT es2) js ns ∧ ((∃ t0, TreeT es t0 h ls ns) → es2 = es) ∧ es2.length ≤ es1.length + 6912 ∧ Nw 256 es es2) ?_ (fun hrest => ?_)
        · rintro σ G8 ⟨y4, y8, y9, y10, y11, es2, js, rfl, b8, hB8, pre8, hNv8, hpN, hsame8, hlen8, nw8⟩
          have has := as_sum d
          have hprl0 := (pre1.trans pre8).length_le
          have xNv : x ∉ Nv :: B.foot := fun hm => by
            rcases List.mem_cons.mp hm with rfl | hm
            · rw [hxG] at hNv; cases hNv
            · exact hxf hm
          have LvNv : Lv ∉ Nv :: B.foot := fun hm => by
            rcases List.mem_cons.mp hm with e | hm
            · exact nNL e.symm
            · exact nLvf hm
          have hx8 := b8 _ _ xNv hxG
          have hLv8 := b8 _ _ LvNv hLv7
          have isl : is.length = ls.length := Paired.len hpL
          have jsl : js.length = ns.length := Paired.len hpN
          have n256 := nds256 d
          refine ⟨_, rfl, B, es2, "tree", rfl, hB8, by omega, by decide +kernel, fun G9 es3 a bl9 hB9 pre9 hget9 hin9 hlen9 => ?_⟩
          have hx9 := bl9 _ _ hxf hx8
          refine ⟨_, rfl, _, rfl, x, CT, dx, _, _, rfl, hx9, ct.cls, ct.na _ (by simp), rfl, B, es3, _, rfl, hB9, by omega, by omega, by have := d.h8; omega, fun G10 es4 b bl10 hB10 pre10 hget10 hin10 hlen10 => ⟨_, _, rfl, ?_⟩⟩
          have hprl1 := pre9.length_le
          have hprl2 := pre10.length_le
          have hLv10 := bl10 _ _ nLvf (bl9 _ _ nLvf hLv8)
          have hNv10 := bl10 _ _ nNvf (bl9 _ _ nNvf hNv8)
          have ek : ∀ ks : List Nat, (ks.map fun (i : Nat) => V.int (i : Nat)) = (nInt ks).map V.int := fun ks => by rw [List.map_map]; rfl
          have isl2 : ∀ k0 ∈ nInt is, 0 ≤ k0 ∧ k0 < (es4.length : Nat) := fun k0 hk0 => by
            obtain ⟨j, hj, rfl⟩ := List.mem_map.mp hk0
            obtain ⟨l, r⟩ := paired_memL hpL hj
            have hj1 : j < es1.length := by
              cases l with
              | none => exact (List.getElem?_eq_some_iff.mp r).1
              | some p =>
                obtain ⟨_, r1, _⟩ := r
                exact (List.getElem?_eq_some_iff.mp r1).1
            have := pre8.length_le
            omega
          have jsl2 : ∀ k0 ∈ nInt js, 0 ≤ k0 ∧ k0 < (es4.length : Nat) := fun k0 hk0 => by
            obtain ⟨j, hj, rfl⟩ := List.mem_map.mp hk0
            obtain ⟨n, r⟩ := paired_memL hpN hj
            obtain ⟨_, _, _, _, r1, _⟩ := r
            have := (List.getElem?_eq_some_iff.mp r1).1
            omega
          refine ⟨_, rfl, _, rfl, _, rfl, _, rfl, _, rfl, B, es4, Lv, nInt is, rfl, hB10, by omega, .inl (by rw [hLv10, ek]), by rw [List.length_map]; omega, isl2, fun G11 es5 c1 bl11 hB11 pre11 hget11 hin11 hlen11 => ?_⟩
          have hNv11 := bl11 _ _ nNvf hNv10
          have hprl3 := pre11.length_le
          refine ⟨_, rfl, _, rfl, B, es5, Nv, nInt js, rfl, hB11, by omega, .inl (by rw [hNv11, ek]), by rw [List.length_map]; omega, fun k0 hk0 => by have := jsl2 k0 hk0; omega, fun G12 es6 c2 bl12 hB12 pre12 hget12 hin12 hlen12 => ⟨by show 4 ≤ sizeLine; decide, fun tq ntq => ?_⟩⟩
          have uq := same_upd (o := HO.tup [.int (a : Nat), .int (b : Nat), .int (c1 : Nat), .int (c2 : Nat)]) ntq
          have hprl4 := pre12.length_le
          have ga := pre_get ((pre10.trans pre11).trans pre12) hget9
          have gb := pre_get (pre11.trans pre12) hget10
          have gc := pre_get pre12 hget11
          have l1 := (List.getElem?_eq_some_iff.mp ga).1
          have l2 := (List.getElem?_eq_some_iff.mp gb).1
          have l3 := (List.getElem?_eq_some_iff.mp gc).1
          have l4 := (List.getElem?_eq_some_iff.mp hget12).1
          refine ⟨B, es6, tq, [(a : Nat), (b : Nat), (c1 : Nat), (c2 : Nat)], rfl, hB12.same uq, by omega, .inr upd_same, by simp, fun k0 hk0 => ?_, fun G13 es7 t bl13 hB13 pre13 hget13 hin13 hlen13 => ?_⟩
          · simp only [List.mem_cons, List.not_mem_nil, or_false] at hk0
            rcases hk0 with rfl | rfl | rfl | rfl <;> omega
          have p8 := pre9.trans (pre10.trans (pre11.trans (pre12.trans pre13)))
          refine q G13 es7 t ?_ hB13 ((pre1.trans pre8).trans p8) ⟨a, b, c1, c2, is, js, hget13, pre_get pre13 ga, pre_get pre13 gb, pre_get pre13 gc, pairedM hpL fun _ _ r => (r.pre pre8).pre p8, pre_get pre13 hget12, pairedM hpN fun _ _ r => r.pre p8⟩ (fun z => ?_) (by omega) ?_
          · intro p o hp e
            have e6 := s6 _ _ e
            have pL : p ∉ Lv :: B.foot := fun hm => by
              rcases List.mem_cons.mp hm with rfl | hm
              · rw [e] at nLvH; cases nLvH
              · exact hp hm
            have e1 := b1 p o pL e6
            have pN : p ∉ Nv :: B.foot := fun hm => by
              rcases List.mem_cons.mp hm with rfl | hm
              · rw [e1] at nNv; cases nNv
              · exact hp hm
            exact bl13 p o hp (uq _ _ (bl12 p o hp (bl11 p o hp (bl10 p o hp (bl9 p o hp (b8 p o pN (u7 _ _ e1)))))))
          · obtain ⟨t0, a', b', c', d', is', js', x1, x2, x3, x4, x5, x6, x7⟩ := id z
            have e1 := hsame8 z
            subst e1
            have nd8 := hB8.wf.nd
            obtain rfl := pairedU (R := LeafT _) (fun _ _ _ a b => LeafT.uniq nd8 a b) (pairedM hpL fun _ _ r => r.pre pre8) x5
            obtain rfl := pairedU (R := NodeT _) (fun _ _ _ a b => NodeT.uniq nd8 a b) hpN x7
            have e2 := hin9 (List.mem_of_getElem? x2)
            subst e2
            have e3 := hin10 (List.mem_of_getElem? x3)
            subst e3
            have e4 := hin11 (List.mem_of_getElem? x4)
            subst e4
            have e5 := hin12 (List.mem_of_getElem? x6)
            subst e5
            obtain rfl := get_u nd8 hget9 x2
            obtain rfl := get_u nd8 hget10 x3
            obtain rfl := get_u nd8 hget11 x4
            obtain rfl := get_u nd8 hget12 x6
            exact hin13 (List.mem_of_getElem? x1)
          · have h8 := d.h8
            have l256 := d.l256
            exact ((((nw8.put pre9 hget9 hin9 hlen9 .name).put pre10 hget10 hin10 hlen10 (.numb (by omega))).put pre11 hget11 hin11 hlen11 (.row (by rw [List.length_map]; omega))).put pre12 hget12 hin12 hlen12 (.row (by rw [List.length_map]; omega))).put pre13 hget13 hin13 hlen13 (.row (by show 4 ≤ 256; decide))
        · have hna7 := tk7 _ _ hna
          refine ⟨_, rfl, x, CT, dx, _, _, rfl, hxG, ct.cls, ct.na _ (by simp), rfl, na, rfl, ⟨_, .of hna7⟩, ?_⟩
          refine for_it (walk_tup (xs := wv)) (fun i σ G => ∃ (y4 y8 y9 y10 y11 : Option V) (es2 : List Ent) (js : List Nat), σ = [some (.ref B.b), some (.ref x), y2, some (.ref Lk), y4, some (.ref Lv), y6, some (.ref Nv), y8, y9, y10, y11, none, none, none, none] ∧ BL (Nv :: B.foot) G7 G ∧ BookAt P w G C B es2 ∧ es1 <+: es2 ∧ G Nv = some (.lst (js.map fun (i : Nat) => V.int (i : Nat))) ∧ Paired (NodeT es2) js (ns.take i) ∧ ((∃ t0, TreeT es t0 h ls ns) → es2 = es) ∧ es2.length ≤ es1.length + 4 * i + asN (ns.take i) ∧ Nw 256 es es2) ⟨_, _, _, _, _, es1, [], rfl, .refl, hB7, List.prefix_refl _, hNv, .nil, hsame1, by simp [asN], nw1⟩ (fun i σ G _ hG => by
            obtain ⟨_, _, _, _, _, _, _, _, b, _⟩ := hG
            have : na ∉ Nv :: B.foot := fun hm => by
              rcases List.mem_cons.mp hm with rfl | hm
              · rw [hNv] at hna7; cases hna7
              · exact naf hm
            exact .of (b _ _ this hna7)) ?_ ?_
          · rintro i y σ G8 G8' hi ⟨y4, y8, y9, y10, y11, es2, js, rfl, b8, hB8, pre8, hNv8, hp8, hsame8, hlen8, nw8⟩ ⟨rfl, hy⟩
            obtain ⟨n, hn, hnd⟩ := Paired.at' hnp hy
            have hi2 : i < ns.length := (List.getElem?_eq_some_iff.mp hn).1
            have htk := take_snoc hn
            have ro := d.gn n (List.mem_of_getElem? hn)
            have tk8 : TK H G8' := tk7.trans (.bl b8 (fun p hp xs e => by
              rcases List.mem_cons.mp hp with rfl | hp
              · rw [hNv] at e; cases e
              · exact hB7.notup p hp xs e))
            obtain ⟨a, nda, ca, rfl, g1, g2, g3⟩ := hnd.tk tk8
            have jsl : js.length = i := by rw [Paired.len hp8, List.length_take]; omega
            have has : asN (ns.take i) ≤ 2304 := by
              have h1 := as_sum d
              have h2 : asN (ns.take i) ≤ asN ns := by
                conv => rhs; rw [← List.take_append_drop i ns]
                unfold asN
                rw [List.map_append, List.sum_append]
                omega
              omega
            have hnle := ro.le
            have told : (∃ t0, TreeT es t0 h ls ns) → ∃ j0, NodeT es j0 n := fun ⟨t0, x⟩ => by
              obtain ⟨_, _, _, _, _, js0, _, _, _, _, _, _, x7⟩ := x
              obtain ⟨j0, _, r⟩ := L2.My.Paired.at x7 hn
              exact ⟨j0, r⟩
            have hb := ro.b128 d.h8
            dsimp only [gName]
            refine ⟨a, _, rfl, .of g1, rfl, _, _, rfl, _, _, rfl, _, _, rfl, rfl, ?_⟩
            refine ⟨_, rfl, _, rfl, nda, _, _, .int (n.1.1 : Nat), rfl, rfl, .of g2, atI_nat (j := 0) rfl, B, es2, _, rfl, hB8, by omega, by omega, by have := ro.lh; have := d.h8; omega, fun G9 es3 a1 bl9 hB9 pre9 hget9 hin9 hlen9 => ?_⟩
            have tk9 := TK.bl bl9 hB8.notup
            refine ⟨_, rfl, _, rfl, nda, _, _, .int (n.1.2 : Nat), rfl, rfl, .of (tk9 _ _ g2), atI_nat (j := 1) rfl, B, es3, _, rfl, hB9, by omega, by omega, by omega, fun G10 es4 a2 bl10 hB10 pre10 hget10 hin10 hlen10 => ⟨_, _, rfl, ?_⟩⟩
            have tk10 := TK.bl bl10 hB9.notup
            have g3' := tk10 _ _ (tk9 _ _ g3)
            have hNv10 := bl10 _ _ nNvf (bl9 _ _ nNvf hNv8)
            dsimp only [gName]
            have same4 : (∃ t0, TreeT es t0 h ls ns) → es4 = es := fun z => by
              obtain ⟨j0, A, Bb, c0, js0, z1, z2, z3, z4, z5⟩ := told z
              have e1 := hsame8 z
              subst e1
              have e2 := hin9 (List.mem_of_getElem? z2)
              subst e2
              exact hin10 (List.mem_of_getElem? z3)
            have hprl1 := pre9.length_le
            have hprl2 := pre10.length_le
            have hprl0 := (pre1.trans pre8).length_le
            refine ⟨_, rfl, .inl ⟨rfl, _, SqL.of hNv10⟩, _, rfl, _, rfl, _, rfl, _, rfl, _, rfl, _, rfl, ca, rfl, ⟨_, .of g3'⟩, fun D5 nD5 => ?_⟩
            have nD5f : D5 ∉ B.foot := fun hm => foot_there hB10 hm nD5
            have nD5N : Nv ≠ D5 := fun e => by rw [e, nD5] at hNv10; cases hNv10
            have u5 := same_upd (o := HO.lst []) nD5
            have hB5' := hB10.same u5
            have g35 := u5 _ _ g3'
            have hNv5 := u5 _ _ hNv10
            have hD5 : (upd G10 D5 (.lst [])) D5 = some (.lst []) := upd_same
            have caD5 : ca ∉ D5 :: B.foot := fun hm => by
              rcases List.mem_cons.mp hm with rfl | hm
              · rw [nD5] at g3'; cases g3'
              · exact hB10.notup _ hm _ g3'
            refine lc_it (walk_tup (xs := nN n.2.2)) (tt := tYes) (fun q G => ∃ (es5 : List Ent) (ks : List Nat), BL (D5 :: B.foot) (upd G10 D5 (.lst [])) G ∧ BookAt P w G C B es5 ∧ es4 <+: es5 ∧ G D5 = some (.lst (ks.map fun (i : Nat) => V.int (i : Nat))) ∧ NumsT es5 ks (n.2.2.take q) ∧ ((∃ t0, TreeT es t0 h ls ns) → es5 = es) ∧ es5.length ≤ es4.length + q ∧ Nw 256 es es5) ⟨es4, [], .refl, hB5', List.prefix_refl _, hD5, .nil, same4, Nat.le_refl _, (nw8.put pre9 hget9 hin9 hlen9 (.numb (by have := ro.lh; have := d.h8; omega))).put pre10 hget10 hin10 hlen10 (.numb (by omega))⟩ (fun q G _ hG => by
              obtain ⟨_, _, b, _⟩ := hG
              exact .of (b _ _ caD5 g35)) ?_ ?_
            · rintro q v G11 G11' hq ⟨es5, ks, b11, hB11, pre11, hD11, hn11, same11, hlen11, nw11⟩ ⟨rfl, hv⟩
              obtain ⟨cc, hcc, rfl⟩ := nN_at hv
              have hq2 : q < n.2.2.length := (List.getElem?_eq_some_iff.mp hcc).1
              have kl : ks.length = q := by rw [Paired.len hn11, List.length_take]; omega
              have hcl := ro.as cc (List.mem_of_getElem? hcc)
              have hc256 : cc < 256 := by
                obtain ⟨_, z, hz⟩ := hcl
                have := (List.getElem?_eq_some_iff.mp hz).1
                omega
              refine ⟨rfl, ?_⟩
              show tCall (spUt P w C) [] E0 (tCons (tVar 0) (tCons (tVar 15) tNil)) _ _ _
              refine ⟨_, rfl, _, rfl, B, es5, _, rfl, hB11, by omega, by omega, by omega, fun G12 es6 j bl12 hB12 pre12 hget12 hin12 hlen12 => ?_⟩
              have hD12 := bl12 _ _ nD5f hD11
              refine ⟨_, hD12, Nat.lt_of_le_of_lt (show (ks.map fun (i : Nat) => V.int (i : Nat)).length ≤ 256 by rw [List.length_map]; omega) (by decide), es6, ks ++ [j], ?_, ?_, pre11.trans pre12, ?_, ?_, fun z => ?_, by omega, nw11.put pre12 hget12 hin12 hlen12 (.numb (by omega))⟩
              · exact (b11.trans (fun p o hp e => bl12 p o (fun hm => hp (List.mem_cons_of_mem _ hm)) e)).trans (.upd (by simp))
              · exact hB12.bl (L := [D5]) (.upd (by simp)) (fun p hp hm => nD5f (by rw [← List.mem_singleton.mp hm]; exact hp)) (fun p hp xs e => by rw [List.mem_singleton.mp hp, hD12] at e; cases e)
              · rw [upd_same, List.map_append]; rfl
              · rw [take_snoc hcc]
                exact L2.My.Paired.snoc (hn11.pre pre12) hget12
              · obtain ⟨j0, A, Bb, c0, js0, z1, z2, z3, z4, z5⟩ := told z
                have e1 := same11 z
                subst e1
                obtain ⟨jc, _, r⟩ := L2.My.Paired.at z5 hcc
                exact hin12 (List.mem_of_getElem? r)
            · rintro G11 ⟨es5, ks, b11, hB11, pre11, hD11, hn11, same11, hlen11, nw11⟩
              rw [nN_len] at hn11 hlen11
              rw [List.take_length] at hn11
              have kl : ks.length = n.2.2.length := Paired.len hn11
              have hprl3 := pre11.length_le
              have ek : (ks.map fun (i : Nat) => V.int (i : Nat)) = (nInt ks).map V.int := by rw [List.map_map]; rfl
              have klt : ∀ k0 ∈ nInt ks, 0 ≤ k0 ∧ k0 < (es5.length : Nat) := fun k0 hk0 => by
                obtain ⟨j, hj, rfl⟩ := List.mem_map.mp hk0
                obtain ⟨_, r⟩ := paired_memL hn11 hj
                have := (List.getElem?_eq_some_iff.mp r).1
                omega
              have hNv11 := b11 _ _ (fun hm => by
                rcases List.mem_cons.mp hm with e | hm
                · exact nD5N e
                · exact nNvf hm) hNv5
              refine ⟨B, es5, D5, nInt ks, rfl, hB11, by omega, .inl (by rw [hD11, ek]), by rw [List.length_map]; omega, klt, fun G12 es6 c0 bl12 hB12 pre12 hget12 hin12 hlen12 => ⟨by show 4 ≤ sizeLine; decide, fun tq ntq => ?_⟩⟩
              have uq := same_upd (o := HO.tup [.int (a1 : Nat), .int (a2 : Nat), .int n.2.1, .int (c0 : Nat)]) ntq
              have hprl4 := pre12.length_le
              have l1 : a1 < es6.length := (List.getElem?_eq_some_iff.mp (pre_get (((pre10.trans pre11).trans pre12)) hget9)).1
              have l2 : a2 < es6.length := (List.getElem?_eq_some_iff.mp (pre_get (pre11.trans pre12) hget10)).1
              have l3 : c0 < es6.length := (List.getElem?_eq_some_iff.mp hget12).1
              have l4 : n.2.1 < (es.length : Nat) := hlk _ (by unfold lockL; exact List.mem_append_right _ (List.mem_map.mpr ⟨n, List.mem_of_getElem? hn, rfl⟩))
              have hk0n := ro.k0
              refine ⟨B, es6, tq, [(a1 : Nat), (a2 : Nat), n.2.1, (c0 : Nat)], rfl, hB12.same uq, by omega, .inr upd_same, by simp, fun k0 hk0 => ?_, fun G13 es7 j bl13 hB13 pre13 hget13 hin13 hlen13 => ?_⟩
              · simp only [List.mem_cons, List.not_mem_nil, or_false] at hk0
                rcases hk0 with rfl | rfl | rfl | rfl <;> omega
              have hNv13 := bl13 _ _ nNvf (uq _ _ (bl12 _ _ nNvf hNv11))
              have preAll := (((pre9.trans pre10).trans pre11).trans pre12).trans pre13
              have e : (js.map fun (i : Nat) => V.int (i : Nat)) ++ [.int (j : Nat)] = (js ++ [j]).map fun (i : Nat) => V.int (i : Nat) := by rw [List.map_append]; rfl
              refine ⟨Nv, _, .int (j : Nat), rfl, rfl, hNv13, Nat.lt_of_le_of_lt (show (js.map fun (i : Nat) => V.int (i : Nat)).length ≤ 1152 by rw [List.length_map]; omega) (by decide), ?_⟩
              rw [e]
              refine ⟨_, _, _, _, _, es7, js ++ [j], rfl, ?_, ?_, pre8.trans preAll, upd_same, ?_, fun z => ?_, ?_, (nw11.put pre12 hget12 hin12 hlen12 (.row (by rw [List.length_map]; omega))).put pre13 hget13 hin13 hlen13 (.row (by show 4 ≤ 256; decide))⟩
              · have w : ∀ {H1 H2 : Hp}, L2.My.BL B.foot H1 H2 → L2.My.BL (Nv :: B.foot) H1 H2 := fun b p o hp e => b p o (fun hm => hp (List.mem_cons_of_mem _ hm)) e
                have b1011 : L2.My.BL B.foot G10 G11 := fun p o hp e => b11 p o (fun hm => by
                  rcases List.mem_cons.mp hm with rfl | hm
                  · rw [nD5] at e; cases e
                  · exact hp hm) (u5 _ _ e)
                exact fun p o hp e => (L2.My.BL.upd (by simp)) p o hp ((w bl13) p o hp (uq _ _ ((w bl12) p o hp ((w b1011) p o hp ((w bl10) p o hp ((w bl9) p o hp (b8 p o hp e)))))))
              · exact hB13.bl (L := [Nv]) (.upd (by simp)) (fun p hp hm => nNvf (by rw [← List.mem_singleton.mp hm]; exact hp)) (fun p hp xs e => by rw [List.mem_singleton.mp hp, hNv13] at e; cases e)
              · rw [htk]
                refine L2.My.Paired.snoc (pairedM hp8 fun _ _ r => r.pre preAll) ⟨a1, a2, c0, ks, hget13, ?_, ?_, ?_, ?_⟩
                · exact pre_get (((pre10.trans pre11).trans pre12).trans pre13) hget9
                · exact pre_get ((pre11.trans pre12).trans pre13) hget10
                · exact pre_get pre13 hget12
                · exact (hn11.pre pre12).pre pre13
              · obtain ⟨j0, A, Bb, cc0, js0, z1, z2, z3, z4, z5⟩ := told z
                have e1 := same11 z
                subst e1
                have nd5 := hB11.wf.nd
                obtain rfl := NumsT.uniq nd5 hn11 z5
                have e2 := hin12 (List.mem_of_getElem? z4)
                subst e2
                obtain rfl := get_u nd5 (pre_get (pre10.trans pre11) hget9) z2
                obtain rfl := get_u nd5 (pre_get pre11 hget10) z3
                obtain rfl := get_u nd5 hget12 z4
                exact hin13 (List.mem_of_getElem? z1)
              · rw [htk, asN_snoc]
                omega
          · rintro σ G8 ⟨y4, y8, y9, y10, y11, es2, js, rfl, b8, hB8, pre8, hNv8, hp8, hsame8, hlen8, nw8⟩
            rw [hwv, List.take_length] at hp8 hlen8
            have := as_sum d
            exact hrest _ _ ⟨_, _, _, _, _, es2, js, rfl, b8, hB8, pre8, hNv8, hp8, hsame8, by omega, nw8⟩
      · refine ⟨_, rfl, x, CT, dx, _, _, rfl, s6 _ _ hxi, ct.cls, ct.na _ (by simp), rfl, la, rfl, ⟨_, .of (s6 _ _ hla)⟩, ?_⟩
        refine for_it (walk_tup (xs := lv)) (fun i σ G => ∃ (y2 y6 : Option V) (es1 : List Ent) (is : List Nat), σ = [some (.ref B.b), some (.ref x), y2, some (.ref Lk), none, some (.ref Lv), y6, none, none, none, none, none, none, none, none, none] ∧ BL (Lv :: B.foot) G6 G ∧ BookAt P w G C B es1 ∧ es <+: es1 ∧ G Lv = some (.lst (is.map fun (i : Nat) => V.int (i : Nat))) ∧ Paired (LeafT es1) is (ls.take i) ∧ ((∃ t0, TreeT es t0 h ls ns) → es1 = es) ∧ es1.length ≤ es.length + 2 * i ∧ Nw 256 es es1) ⟨_, _, es, [], rfl, .refl, hB6, List.prefix_refl _, hLv, .nil, fun _ => rfl, Nat.le_refl _, .refl⟩ (fun i σ G _ hG => by
          obtain ⟨_, _, _, _, _, b, _⟩ := hG
          have : la ∉ Lv :: B.foot := fun hm => by
            rcases List.mem_cons.mp hm with rfl | hm
            · rw [hla] at nLvH; cases nLvH
            · exact laf hm
          exact .of (b _ _ this (s6 _ _ hla))) ?_ ?_
        · rintro i y σ G G' hi ⟨y2, y6, es1, is, rfl, b, hB7, pre, hLv7, hp, hsame, hlen, nw⟩ ⟨rfl, hy⟩
          obtain ⟨l, hl3, hlf⟩ := Paired.at' hlp hy
          have hi2 : i < 256 := by omega
          have htk := take_snoc hl3
          have nLvf : Lv ∉ B.foot := fun hm => foot_there hB5 hm nLv
          have tkb : TK G6 G' := .bl b (fun p hp xs e => by
            rcases List.mem_cons.mp hp with rfl | hp
            · rw [hLv] at e; cases e
            · exact hB6.notup p hp xs e)
          have tkG : TK H G' := (TK.same s6).trans tkb
          have hlf := hlf.tk tkG
          have isl : is.length = i := by rw [Paired.len hp, List.length_take]; omega
          dsimp only [gName]
          refine ⟨_, rfl, rfl, ?_⟩
          have ed : decide (y = .non) = !notNon y := by rw [← nonN, Bool.not_not]
          rw [ed, lf_non hlf]
          dsimp only [gName]
          refine ⟨_, rfl, .inl ⟨rfl, _, SqL.of hLv7⟩, te_use (t := tIf _ _ _) (fun v G2 => ∃ (es2 : List Ent) (j : Nat), v = .int (j : Nat) ∧ BL B.foot G' G2 ∧ BookAt P w G2 C B es2 ∧ es1 <+: es2 ∧ LeafT es2 j l ∧ ((∃ t0, TreeT es t0 h ls ns) → es2 = es) ∧ es2.length ≤ es1.length + 2 ∧ Nw 256 es es2) ?_ (fun hk => ?_)⟩
          · rintro v G2 ⟨es2, j, rfl, bl, hB8, pre2, hL, hsame2, hlen2, nw2⟩
            have hLv8 := bl _ _ nLvf hLv7
            have e : (is.map fun (i : Nat) => V.int (i : Nat)) ++ [.int (j : Nat)] = (is ++ [j]).map fun (i : Nat) => V.int (i : Nat) := by rw [List.map_append]; rfl
            refine ⟨Lv, _, .int (j : Nat), rfl, rfl, hLv8, Nat.lt_of_le_of_lt (show (is.map fun (i : Nat) => V.int (i : Nat)).length ≤ 256 by rw [List.length_map]; omega) (by decide), ?_⟩
            rw [e]
            have b2 : BL (Lv :: B.foot) G' G2 := fun p o hp e => bl p o (fun hm => hp (List.mem_cons_of_mem _ hm)) e
            refine ⟨_, _, es2, is ++ [j], rfl, (b.trans b2).trans (.upd (by simp)), hB8.bl (L := [Lv]) (.upd (by simp)) (fun p hp hm => nLvf (by rw [← List.mem_singleton.mp hm]; exact hp)) (fun p hp xs e => by rw [List.mem_singleton.mp hp, hLv8] at e; cases e), pre.trans pre2, upd_same, ?_, hsame2, by omega, nw2⟩
            rw [htk]
            exact L2.My.Paired.snoc (pairedM hp fun _ _ r => r.pre pre2) hL
          · refine ⟨_, rfl, _, rfl, ?_⟩
            -- what the whole tree's being told says of this leaf
            have told : (∃ t0, TreeT es t0 h ls ns) → ∃ j0, LeafT es j0 l := fun ⟨t0, x⟩ => by
              obtain ⟨_, _, _, _, is0, _, _, _, _, _, x5, _⟩ := x
              obtain ⟨j0, _, r⟩ := L2.My.Paired.at x5 hl3
              exact ⟨j0, r⟩
            cases l with
            | none =>
              refine iteT ⟨_, rfl, B, es1, 0, rfl, hB7, by omega, by omega, by omega, fun G2 es2 j bl hB8 pre2 hget hin hlen2 => hk _ _ ⟨es2, j, rfl, bl, hB8, pre2, hget, fun z => ?_, by omega, nw.put pre2 hget hin hlen2 (.numb (by decide))⟩⟩
              obtain ⟨j0, r⟩ := told z
              have e1 := hsame z
              rw [e1] at hin
              exact hin (List.mem_of_getElem? r)
            | some p =>
              obtain ⟨xa, rfl, hxa⟩ := hlf
              have gl := d.gl _ (List.mem_of_getElem? hl3) p.1 p.2 rfl
              refine iteF ⟨_, rfl, _, rfl, _, rfl, xa, _, _, .str p.1, rfl, rfl, .of hxa, atI_nat (j := 0) rfl, B, es1, p.1, rfl, hB7, by omega, word_name gl.1, fun G2 es2 a bl hB8 pre2 hget hin hlen2 => ?_⟩
              have hxa2 := TK.bl bl hB7.notup _ _ hxa
              refine ⟨_, rfl, xa, _, _, .int p.2, rfl, rfl, .of hxa2, atI_nat (j := 1) rfl, by show 2 ≤ sizeLine; decide, fun qa nq => ?_⟩
              have u := same_upd (o := HO.tup [.int (a : Nat), .int p.2]) nq
              have hap : a < es2.length := (List.getElem?_eq_some_iff.mp hget).1
              have hpl : p.2 < (es.length : Nat) := hlk p.2 (by
                unfold lockL
                exact List.mem_append_left _ (List.mem_map.mpr ⟨p, List.mem_filterMap.mpr ⟨some p, List.mem_of_getElem? hl3, rfl⟩, rfl⟩))
              have hpre := (pre.trans pre2).length_le
              refine ⟨B, es2, qa, [(a : Nat), p.2], rfl, hB8.same u, by omega, .inr upd_same, by simp, fun k0 hk0 => ?_, fun G3 es3 j bl3 hB9 pre3 hget3 hin3 hlen3 => hk _ _ ⟨es3, j, rfl, (bl.trans (.same u)).trans bl3, hB9, pre2.trans pre3, ⟨a, hget3, pre_get pre3 hget⟩, fun z => ?_, by omega, (nw.put pre2 hget hin hlen2 .name).put pre3 hget3 hin3 hlen3 (.row (by show 2 ≤ 256; decide))⟩⟩
              · simp only [List.mem_cons, List.not_mem_nil, or_false] at hk0
                rcases hk0 with rfl | rfl
                · omega
                · exact ⟨gl.2.1, by omega⟩
              · obtain ⟨j0, a0, x1, x2⟩ := told z
                have e1 := hsame z
                subst e1
                have e2 := hin (List.mem_of_getElem? x2)
                subst e2
                obtain rfl := get_u hB8.wf.nd hget x2
                exact hin3 (List.mem_of_getElem? x1)
        · rintro σ G ⟨y2, y6, es1, is, rfl, b, hB7, pre, hLv7, hp, hsame, hlen, nw⟩
          rw [hlv, List.take_length] at hp
          exact hrest _ _ ⟨_, _, es1, is, rfl, b, hB7, pre, hLv7, hp, hsame, by omega, nw⟩
    · refine ⟨_, rfl, Lk, rfl, ⟨_, SqL.of hLk⟩, fun D3 nD3 => ?_⟩
      have hll : (lockL ls ns).length ≤ 1408 := by
        rw [← List.length_map (f := V.int), ← eLk, List.length_append, List.length_map (as := ns)]
        omega
      refine lcP (walk_list (xs := (lockL ls ns).map V.int)) (fun i => V.bl (belowV (es.length : Nat) (((lockL ls ns).map V.int).getD i .non))) (Nat.lt_of_le_of_lt (show ((lockL ls ns).map V.int).length ≤ 1408 by rw [List.length_map]; exact hll) (by decide)) nD3 (fun _ sm => SqL.of (sm _ _ hLk)) ?_ ?_
      · rintro i y G6 G7 Q' hi sm ⟨rfl, hy⟩ hq
        have eg : ((lockL ls ns).map V.int).getD i .non = y := by rw [List.getD_eq_getElem?_getD, hy]; rfl
        rw [eg] at hq
        have hB6 := hB4.same sm
        rw [List.getElem?_map] at hy
        obtain ⟨k0, hk0, rfl⟩ := Option.map_eq_some_iff.mp hy
        exact ⟨rfl, _, rfl, B.b, B.dx, _, rfl, hB6.ins, rfl, B, _, es, rfl, hB6.kp, _, rfl, _, _, _, rfl, .int k0, hq _ (Same.refl _)⟩
      · intro G6 s6 hd6
        have s46 := s4.trans s6
        have hpos : ∀ k ∈ lockL ls ns, 0 ≤ k := fun k hk => by
          unfold lockL at hk
          rcases List.mem_append.mp hk with hk | hk
          · obtain ⟨p, hp, rfl⟩ := List.mem_map.mp hk
            obtain ⟨l, hl3, e⟩ := List.mem_filterMap.mp hp
            obtain rfl : l = some p := e
            exact (d.gl _ hl3 p.1 p.2 rfl).2.1
          · obtain ⟨n, hn, rfl⟩ := List.mem_map.mp hk
            exact (d.gn n hn).k0
        refine ⟨D3, (List.range ((lockL ls ns).map V.int).length).map fun i => belowV (es.length : Nat) (((lockL ls ns).map V.int).getD i .non), rfl, .inl (.inl (by rw [hd6, List.map_map]; rfl)), _, rfl, ?_⟩
        rw [range_all]
        cases hn : ((lockL ls ns).map V.int).all (belowV (es.length : Nat)) with
        | false =>
          refine iteT ⟨fun _ h => s46.free h, qe ?_ _ s46⟩
          refine Classical.byContradiction fun hne => ?_
          have : ((lockL ls ns).map V.int).all (belowV (es.length : Nat)) = true := List.all_eq_true.mpr fun y hy => by
            obtain ⟨k0, hk0, rfl⟩ := List.mem_map.mp hy
            refine decide_eq_true (show 0 ≤ k0 ∧ k0 < ((es.length : Nat) : Int) from ⟨hpos k0 hk0, ?_⟩)
            exact Int.not_le.mp fun z => hne ⟨k0, hk0, z⟩
          rw [hn] at this
          cases this
        | true =>
          refine iteF (hrest _ _ ⟨rfl, s46, fun k0 hk0 => ?_⟩)
          have e : decide (0 ≤ k0 ∧ k0 < ((es.length : Nat) : Int)) = true := List.all_eq_true.mp hn _ (List.mem_map_of_mem hk0)
          exact (of_decide_eq_true e).2
end
end L2.Bk
end
section
set_option Elab.async false
set_option linter.all false
set_option maxRecDepth 100000
set_option maxHeartbeats 4000000
/-! What passed the judges is a tree as drawn ones are; what is read of terms. -/
namespace L2.My
open PySem PySem.Spec PyProof.Rows
theorem pw_asc : ∀ {l : List Nat}, ascBy ltI (l.map fun (j : Nat) => (j : Int)) = true → l.Pairwise (· < ·)
  | [], _ => .nil
  | x :: r, h => by
    refine List.pairwise_cons.mpr ⟨fun z hz => ?_, pw_asc (asc_tail h)⟩
    have := asc_gt (x := (x : Int)) h (z : Int) (List.mem_map.mpr ⟨z, hz, rfl⟩)
    omega
theorem row_back {H : Hp} {v : V} {n : Nd} {h : Nat} {vs : List V} {ls : List Lf} (hn : NdAt H v n) (hp : Paired (LfAt H) vs ls) (k : keptB H h vs v = true) (g : GNd n) : RowOk h ls n := by
  obtain ⟨a, na, ca, rfl, h1, h2, h3⟩ := hn
  have t2 := tupOf_at h2
  have e1 : levV H (.ref na) = n.1.1 := by unfold levV; rw [t2]; rfl
  have e2 : atV H (.ref na) = n.1.2 := by unfold atV; rw [t2]; rfl
  rw [keptB_at (tupOf_at h1), Bool.and_eq_true, Bool.and_eq_true, Bool.and_eq_true, e1, e2, asideB_at (tupOf_at h3), Bool.and_eq_true, Bool.and_eq_true] at k
  obtain ⟨k1, k2, k3, k4, k5, k6⟩ := k
  unfold nodeB at k1
  rw [t2] at k1
  have k1 : (decide (0 ≤ ((n.1.1 : Nat) : Int) ∧ ((n.1.1 : Nat) : Int) < (h : Int) + 1) && decide (0 ≤ ((n.1.2 : Nat) : Int) ∧ ((n.1.2 : Nat) : Int) < (2 : Int) ^ (h - ((n.1.1 : Nat) : Int).toNat))) = true := k1
  rw [Bool.and_eq_true, decide_eq_true_eq, decide_eq_true_eq, Int.toNat_natCast] at k1
  have e : ((2 : Int) ^ (h - n.1.1)) = ((2 ^ (h - n.1.1) : Nat) : Int) := by push_cast; rfl
  rw [e] at k1
  have e6 : (nN n.2.2).map intV = n.2.2.map fun (j : Nat) => (j : Int) := by
    unfold nN
    rw [List.map_map]
    rfl
  rw [e6] at k5
  refine ⟨g.2.1, by have := k1.1.2; omega, Int.ofNat_lt.mp k1.2.2, g.2.2.2.1, g.2.2.2.2.1, pw_asc k5, g.2.2.2.2.2.1, fun j hj => ?_⟩
  have := List.all_eq_true.mp k6 (V.int (j : Nat)) (List.mem_map.mpr ⟨j, hj, rfl⟩)
  have this : (decide (((j : Nat) : Int).toNat / 2 ^ n.1.1 = n.1.2) && notNon (vs.getD ((j : Nat) : Int).toNat .non)) = true := this
  rw [Int.toNat_natCast, Bool.and_eq_true, decide_eq_true_eq] at this
  refine ⟨this.1, ?_⟩
  cases hv : vs[j]? with
  | none =>
    rw [List.getD_eq_getElem?_getD, hv] at this
    exact absurd this.2 Bool.false_ne_true
  | some v =>
    rw [List.getD_eq_getElem?_getD, hv] at this
    obtain ⟨l, hl, r⟩ := Paired.at' hp hv
    have q := this.2
    rw [show (some v : Option V).getD .non = v from rfl, lf_non r] at q
    obtain ⟨z, rfl⟩ := Option.isSome_iff_exists.mp q
    exact ⟨z, hl⟩
theorem good_dr {b : Addr} {H : Hp} {h l n : V} (tl : Thg b H l) (tn : Thg b H n) (e : badT H h l n = none) : ∃ hn la na ls ns, h = .int (hn : Nat) ∧ l = .ref la ∧ n = .ref na ∧ LvsAt H la ls ∧ NdsAt H na ns ∧ DrT hn ls ns := by
  unfold badT at e
  split at e
  · rename_i hb
    split at e
    · rename_i hl
      split at e
      · rename_i hnn
        obtain ⟨b1, b2, _⟩ := below_int hb
        have h8 : iV h ≤ 8 := by omega
        obtain ⟨la, vs, ls, rfl, ev, lv, hL, ll, gl⟩ := good_leaves tl hl
        have l256 : 2 ^ iV h ≤ 256 := Nat.le_trans (Nat.pow_le_pow_right (by decide) h8) (by decide)
        rw [ev, Option.getD_some] at hnn
        obtain ⟨na, ns, rfl, hN, nl, gn⟩ := good_nodes h8 (by omega) tn hnn
        obtain ⟨vs', hla, hp⟩ := id hL
        rw [tupOf_at hla] at ev
        obtain rfl := Option.some.inj ev
        obtain ⟨ws, hna, hq⟩ := id hN
        rw [nodesB_at (tupOf_at hna), Bool.and_eq_true] at hnn
        rw [leavesB_at (tupOf_at hla), Bool.and_eq_true, Bool.and_eq_true, decide_eq_true_eq, decide_eq_true_eq, (lf_list hp gl).2] at hl
        have ro : ∀ n ∈ ns, RowOk (iV h) ls n := fun n hn => by
          obtain ⟨i, hi⟩ := List.getElem?_of_mem hn
          obtain ⟨w, hw, r⟩ := Paired.at hq hi
          exact row_back r hp (List.all_eq_true.mp hnn.1 w (List.mem_of_getElem? hw)) (gn n hn)
        exact ⟨iV h, la, na, ls, ns, b1, rfl, rfl, hL, hN, h8, ll, gl, hl.2.2, ro, by rw [← (rows_ok hq ro hp).2]; exact hnn.2, nl⟩
      · cases e
    · cases e
  · cases e
end L2.My
namespace L2.Bk
open L2.My PySem PySem.Spec PyProof.Rows
theorem paired_comp {α β γ : Type} {R : α → β → Prop} {S : α → γ → Prop} {T : β → γ → Prop} {as : List α} {bs : List β} (f : ∀ a b c, R a b → S a c → T b c) (h : Paired R as bs) : ∀ {cs : List γ}, Paired S as cs → Paired T bs cs := by
  induction h with
  | nil => intro cs k; cases k; exact .nil
  | cons r _ ih => intro cs k; cases k with | cons s k => exact .cons (f _ _ _ r s) (ih k)
theorem paired_link {α β γ : Type} {R : α → β → Prop} {S : β → γ → Prop} {T : α → γ → Prop} {as : List α} {bs : List β} (f : ∀ a b c, R a b → S b c → T a c) (h : Paired R as bs) : ∀ {cs : List γ}, Paired S bs cs → Paired T as cs := by
  induction h with
  | nil => intro cs k; cases k; exact .nil
  | cons r _ ih => intro cs k; cases k with | cons s k => exact .cons (f _ _ _ r s) (ih k)
theorem pairedD {α β : Type} {R : α → β → Prop} (u : ∀ x y y', R x y → R x y' → y = y') : ∀ {xs : List α} {ys ys' : List β}, Paired R xs ys → Paired R xs ys' → ys = ys'
  | _, _, _, .nil, .nil => rfl
  | _, _, _, .cons r h, .cons r' h' => by rw [u _ _ _ r r', pairedD u h h']
theorem numb_inj {i j : Int} (h : numbE i = numbE j) : i = j := by
  have := congrArg (fun e : Ent => e.2) h
  have : ([.inl i] : List Key) = [.inl j] := this
  exact Sum.inl.inj (List.cons.inj this).1
theorem name_inj {x y : Str} (h : nameE x = nameE y) : x = y := by
  have : ([.inr x] : List Key) = [.inr y] := congrArg (fun e : Ent => e.2) h
  exact Sum.inr.inj (List.cons.inj this).1
theorem inl_inj : ∀ {is js : List Int}, (is.map Sum.inl : List Key) = js.map Sum.inl → is = js
  | [], [], _ => rfl
  | [], _ :: _, h => by cases h
  | _ :: _, [], h => by cases h
  | i :: r, j :: q, h => by
    rw [List.map_cons, List.map_cons] at h
    obtain ⟨h1, h2⟩ := List.cons.inj h
    rw [Sum.inl.inj h1, inl_inj h2]
theorem row_inj {is js : List Int} (h : rowE is = rowE js) : is = js := inl_inj (congrArg (fun e : Ent => e.2) h)
theorem numb_row {i : Int} {is : List Int} (h : numbE i = rowE is) : False := absurd (congrArg (fun e : Ent => e.1) h) (by show ¬ (("number" : Str) = "row"); decide +kernel)
theorem name_row {z : Str} {is : List Int} (h : nameE z = rowE is) : False := absurd (congrArg (fun e : Ent => e.1) h) (by show ¬ (("name" : Str) = "row"); decide +kernel)
theorem name_numb {z : Str} {i : Int} (h : nameE z = numbE i) : False := absurd (congrArg (fun e : Ent => e.1) h) (by show ¬ (("name" : Str) = "number"); decide +kernel)
theorem get2 {es : List Ent} {i : Nat} {e e' : Ent} (h : es[i]? = some e) (h' : es[i]? = some e') : e = e' := by
  rw [h] at h'
  exact Option.some.inj h'
theorem nInt_inj : ∀ {is js : List Nat}, nInt is = nInt js → is = js
  | [], [], _ => rfl
  | [], _ :: _, h => by cases h
  | _ :: _, [], h => by cases h
  | i :: r, j :: q, h => by
    have h : ((i : Nat) : Int) :: nInt r = ((j : Nat) : Int) :: nInt q := h
    obtain ⟨h1, h2⟩ := List.cons.inj h
    rw [Int.ofNat_inj.mp h1, nInt_inj h2]
section
variable {es : List Ent}
theorem LeafT.det {i : Nat} {l l' : Lf} (h : LeafT es i l) (h' : LeafT es i l') : l = l' := by
  cases l with
  | none =>
    cases l' with
    | none => rfl
    | some p' => obtain ⟨a, x1, x2⟩ := h'; exact (numb_row (get2 h x1)).elim
  | some p =>
    obtain ⟨a, x1, x2⟩ := h
    cases l' with
    | none => exact (numb_row (get2 h' x1)).elim
    | some p' =>
      obtain ⟨a', y1, y2⟩ := h'
      have e := row_inj (get2 x1 y1)
      obtain ⟨e1, e2⟩ := List.cons.inj e
      obtain rfl := Int.ofNat_inj.mp e1
      rw [show p = (p.1, p.2) from rfl, show p' = (p'.1, p'.2) from rfl, name_inj (get2 x2 y2), (List.cons.inj e2).1]
theorem NumsT.det {js xs xs' : List Nat} (h : NumsT es js xs) (h' : NumsT es js xs') : xs = xs' := pairedD (R := fun (j x : Nat) => es[j]? = some (numbE (x : Nat))) (fun _ _ _ a b => Int.ofNat_inj.mp (numb_inj (get2 a b))) h h'
theorem NodeT.det {i : Nat} {n n' : Nd} (h : NodeT es i n) (h' : NodeT es i n') : n = n' := by
  obtain ⟨a, b, c, js, x1, x2, x3, x4, x5⟩ := h
  obtain ⟨a', b', c', js', y1, y2, y3, y4, y5⟩ := h'
  have e := row_inj (get2 x1 y1)
  obtain ⟨e1, e⟩ := List.cons.inj e
  obtain ⟨e2, e⟩ := List.cons.inj e
  obtain ⟨e3, e⟩ := List.cons.inj e
  obtain ⟨e4, e⟩ := List.cons.inj e
  obtain rfl := Int.ofNat_inj.mp e1
  obtain rfl := Int.ofNat_inj.mp e2
  obtain rfl := Int.ofNat_inj.mp e4
  obtain rfl := nInt_inj (row_inj (get2 x4 y4))
  have f1 := Int.ofNat_inj.mp (numb_inj (get2 x2 y2))
  have f2 := Int.ofNat_inj.mp (numb_inj (get2 x3 y3))
  have f3 := NumsT.det x5 y5
  exact Prod.ext (Prod.ext f1 f2) (Prod.ext e3 f3)
theorem TreeT.det {t h h' : Nat} {ls ls' : List Lf} {ns ns' : List Nd} (x : TreeT es t h ls ns) (y : TreeT es t h' ls' ns') : h = h' ∧ ls = ls' ∧ ns = ns' := by
  obtain ⟨a, b, c, d, is, js, x1, x2, x3, x4, x5, x6, x7⟩ := x
  obtain ⟨a', b', c', d', is', js', y1, y2, y3, y4, y5, y6, y7⟩ := y
  have e := row_inj (get2 x1 y1)
  obtain ⟨e1, e⟩ := List.cons.inj e
  obtain ⟨e2, e⟩ := List.cons.inj e
  obtain ⟨e3, e⟩ := List.cons.inj e
  obtain ⟨e4, e⟩ := List.cons.inj e
  obtain rfl := Int.ofNat_inj.mp e2
  obtain rfl := Int.ofNat_inj.mp e3
  obtain rfl := Int.ofNat_inj.mp e4
  obtain rfl := nInt_inj (row_inj (get2 x4 y4))
  obtain rfl := nInt_inj (row_inj (get2 x6 y6))
  exact ⟨Int.ofNat_inj.mp (numb_inj (get2 x3 y3)), pairedD (R := LeafT es) (fun _ _ _ a b => LeafT.det a b) x5 y5, pairedD (R := NodeT es) (fun _ _ _ a b => NodeT.det a b) x7 y7⟩
/-! ### what is read -/
/-- a part that is no leaf of a tree -/
def BadLf (H : Hp) (v : V) : Prop := v = .str "bad" ∨ ∃ a xs, v = .ref a ∧ H a = some (.tup xs) ∧ (xs = [] ∨ ∃ k : Int, xs = [.non, .int k] ∧ k ≤ maxI)
/-- what is read of a leaf's term -/
def LfRd (es : List Ent) (i : Nat) (H : Hp) (v : V) : Prop := (∃ l, LeafT es i l ∧ LfAt H v l ∧ ∀ z k, l = some (z, k) → z.length ≤ 40 ∧ k ≤ maxI) ∨ ((∀ l, ¬ LeafT es i l) ∧ BadLf H v)
def NumNon (v : V) : Prop := v = .non ∨ ∃ j : Nat, v = .int (j : Nat) ∧ ((j : Nat) : Int) ≤ maxI
def BadNd (H : Hp) (v : V) : Prop := v = .str "bad" ∨ ∃ a xs, v = .ref a ∧ H a = some (.tup xs) ∧ (xs = [] ∨ ∃ na ca x y ys, ∃ k : Int, xs = [.ref na, .int k, .ref ca] ∧ k ≤ maxI ∧ H na = some (.tup [x, y]) ∧ NumNon x ∧ NumNon y ∧ H ca = some (.tup ys) ∧ ys.length ≤ 5000 ∧ (∀ u ∈ ys, NumNon u) ∧ (x = .non ∨ y = .non ∨ .non ∈ ys))
def NdRd (es : List Ent) (i : Nat) (H : Hp) (v : V) : Prop := (∃ n, NodeT es i n ∧ NdAt H v n ∧ n.2.1 ≤ maxI ∧ n.2.2.length ≤ 5000 ∧ ∀ j ∈ [n.1.1, n.1.2] ++ n.2.2, ((j : Nat) : Int) ≤ maxI) ∨ ((∀ n, ¬ NodeT es i n) ∧ BadNd H v)
theorem BadLf.tk {H H' : Hp} {v : V} (h : BadLf H v) (t : TK H H') : BadLf H' v := by
  rcases h with h | ⟨a, xs, e, h1, h2⟩
  · exact .inl h
  · exact .inr ⟨a, xs, e, t _ _ h1, h2⟩
theorem BadNd.tk {H H' : Hp} {v : V} (h : BadNd H v) (t : TK H H') : BadNd H' v := by
  rcases h with h | ⟨a, xs, e, h1, h2 | ⟨na, ca, x, y, ys, k, q1, q2, q3, q4, q5, q6, q7⟩⟩
  · exact .inl h
  · exact .inr ⟨a, xs, e, t _ _ h1, .inl h2⟩
  · exact .inr ⟨a, xs, e, t _ _ h1, .inr ⟨na, ca, x, y, ys, k, q1, q2, t _ _ q3, q4, q5, t _ _ q6, q7⟩⟩
theorem LfRd.tk {i : Nat} {H H' : Hp} {v : V} (h : LfRd es i H v) (t : TK H H') : LfRd es i H' v := by
  rcases h with ⟨l, h1, h2, h3⟩ | ⟨h1, h2⟩
  · exact .inl ⟨l, h1, h2.tk t, h3⟩
  · exact .inr ⟨h1, h2.tk t⟩
theorem NdRd.tk {i : Nat} {H H' : Hp} {v : V} (h : NdRd es i H v) (t : TK H H') : NdRd es i H' v := by
  rcases h with ⟨l, h1, h2, h3⟩ | ⟨h1, h2⟩
  · exact .inl ⟨l, h1, h2.tk t, h3⟩
  · exact .inr ⟨h1, h2.tk t⟩
theorem BadLf.no {H : Hp} {v : V} {l : Lf} (h : BadLf H v) (k : LfAt H v l) : False := by
  rcases h with rfl | ⟨a, xs, rfl, h1, h2⟩
  · cases l with
    | none => cases k
    | some p => obtain ⟨a, e, _⟩ := k; cases e
  · cases l with
    | none => cases k
    | some p =>
      obtain ⟨a', e, h3⟩ := k
      cases e
      rw [h1] at h3
      rcases h2 with rfl | ⟨q, rfl, _⟩ <;> cases h3
theorem BadNd.no {H : Hp} {v : V} {n : Nd} (h : BadNd H v) (k : NdAt H v n) : False := by
  obtain ⟨a', na', ca', e, k1, k2, k3⟩ := k
  rcases h with rfl | ⟨a, xs, rfl, h1, h2⟩
  · cases e
  · cases e
    rw [h1] at k1
    rcases h2 with rfl | ⟨na, ca, x, y, ys, q, rfl, _, q3, _, _, q6, _, _, q9⟩
    · cases k1
    · cases k1
      rw [q3] at k2
      cases k2
      rw [q6] at k3
      cases k3
      rcases q9 with q9 | q9 | q9
      · cases q9
      · cases q9
      · unfold nN at q9
        obtain ⟨_, _, q9⟩ := List.mem_map.mp q9
        cases q9
theorem LfRd.to {H : Hp} {i : Nat} {v : V} {l : Lf} (h : LfRd es i H v) (k : LfAt H v l) : LeafT es i l := by
  rcases h with ⟨l', h1, h2, _⟩ | ⟨h1, h2⟩
  · have : l' = l := by
      cases l' with
      | none =>
        cases l with
        | none => rfl
        | some p => obtain ⟨a, e, _⟩ := k; cases h2; cases e
      | some p' =>
        obtain ⟨a, rfl, h3⟩ := h2
        cases l with
        | none => cases k
        | some p =>
          obtain ⟨a', e, h4⟩ := k
          cases e
          rw [h3] at h4
          obtain ⟨f1, f⟩ := List.cons.inj (HO.tup.inj (Option.some.inj h4))
          obtain ⟨f2, _⟩ := List.cons.inj f
          rw [show p' = (p'.1, p'.2) from rfl, show p = (p.1, p.2) from rfl, V.str.inj f1, V.int.inj f2]
    rw [← this]; exact h1
  · exact (h2.no k).elim
theorem nN_inj : ∀ {xs ys : List Nat}, nN xs = nN ys → xs = ys
  | [], [], _ => rfl
  | [], _ :: _, h => by cases h
  | _ :: _, [], h => by cases h
  | i :: r, j :: q, h => by
    have h : V.int (i : Nat) :: nN r = V.int (j : Nat) :: nN q := h
    obtain ⟨h1, h2⟩ := List.cons.inj h
    rw [Int.ofNat_inj.mp (V.int.inj h1), nN_inj h2]
theorem NdRd.to {H : Hp} {i : Nat} {v : V} {n : Nd} (h : NdRd es i H v) (k : NdAt H v n) : NodeT es i n := by
  rcases h with ⟨n', h1, h2, _⟩ | ⟨h1, h2⟩
  · have : n' = n := by
      obtain ⟨a, na, ca, rfl, x1, x2, x3⟩ := h2
      obtain ⟨a', na', ca', e, y1, y2, y3⟩ := k
      cases e
      rw [x1] at y1
      obtain ⟨e1, e⟩ := List.cons.inj (HO.tup.inj (Option.some.inj y1))
      obtain ⟨e2, e⟩ := List.cons.inj e
      obtain ⟨e3, e⟩ := List.cons.inj e
      cases e1
      cases e3
      rw [x2] at y2
      obtain ⟨f1, f⟩ := List.cons.inj (HO.tup.inj (Option.some.inj y2))
      obtain ⟨f2, f⟩ := List.cons.inj f
      rw [x3] at y3
      exact Prod.ext (Prod.ext (Int.ofNat_inj.mp (V.int.inj f1)) (Int.ofNat_inj.mp (V.int.inj f2))) (Prod.ext (V.int.inj e2) (nN_inj (HO.tup.inj (Option.some.inj y3))))
    rw [← this]; exact h1
  · exact (h2.no k).elim
theorem LfRd.at {H : Hp} {i : Nat} {v : V} {l : Lf} (h : LfRd es i H v) (k : LeafT es i l) : LfAt H v l := by
  rcases h with ⟨l', h1, h2, _⟩ | ⟨h1, h2⟩
  · rw [← LeafT.det h1 k]; exact h2
  · exact absurd k (h1 l)
theorem NdRd.at {H : Hp} {i : Nat} {v : V} {n : Nd} (h : NdRd es i H v) (k : NodeT es i n) : NdAt H v n := by
  rcases h with ⟨l', h1, h2, _⟩ | ⟨h1, h2⟩
  · rw [← NodeT.det h1 k]; exact h2
  · exact absurd k (h1 n)
theorem bad_str {b : Addr} {H : Hp} : Thg b H (.str "bad") := .str _ (by decide +kernel)
theorem LfRd.thg {b : Addr} {H : Hp} {i : Nat} {v : V} (n : NoTup H b) (h : LfRd es i H v) : Thg b H v := by
  rcases h with ⟨l, h1, h2, h3⟩ | ⟨h1, rfl | ⟨a, xs, rfl, h2, h3⟩⟩
  · cases l with
    | none => cases h2; exact .non
    | some p =>
      obtain ⟨z, k⟩ := p
      obtain ⟨a, rfl, ha⟩ := h2
      obtain ⟨g1, g2⟩ := h3 z k rfl
      refine .tup ha (n.ne ha) (by show 2 ≤ 5000; decide) fun x hx => ?_
      rcases List.mem_cons.mp hx with rfl | hx
      · exact .str _ (by omega)
      · rw [List.mem_singleton.mp hx]; exact .int _ g2
  · exact bad_str
  · rcases h3 with rfl | ⟨k, rfl, hk⟩
    · exact .tup h2 (n.ne h2) (Nat.zero_le _) fun x hx => by cases hx
    · refine .tup h2 (n.ne h2) (by show 2 ≤ 5000; decide) fun x hx => ?_
      rcases List.mem_cons.mp hx with rfl | hx
      · exact .non
      · rw [List.mem_singleton.mp hx]; exact .int _ hk
theorem NumNon.thg {b : Addr} {H : Hp} {v : V} (h : NumNon v) : Thg b H v := by
  rcases h with rfl | ⟨j, rfl, hj⟩
  · exact .non
  · exact .int _ hj
theorem NdRd.thg {b : Addr} {H : Hp} {i : Nat} {v : V} (n : NoTup H b) (h : NdRd es i H v) : Thg b H v := by
  rcases h with ⟨m, h1, ⟨a, na, ca, rfl, x1, x2, x3⟩, h4, h5, h6⟩ | ⟨h1, rfl | ⟨a, xs, rfl, h2, h3⟩⟩
  · refine .tup x1 (n.ne x1) (by show 3 ≤ 5000; decide) fun x hx => ?_
    rcases List.mem_cons.mp hx with rfl | hx
    · refine .tup x2 (n.ne x2) (by show 2 ≤ 5000; decide) fun x hx => ?_
      rcases List.mem_cons.mp hx with rfl | hx
      · exact .int _ (h6 _ (by simp))
      · rw [List.mem_singleton.mp hx]; exact .int _ (h6 _ (by simp))
    · rcases List.mem_cons.mp hx with rfl | hx
      · exact .int _ h4
      · rw [List.mem_singleton.mp hx]
        refine .tup x3 (n.ne x3) (by rw [nN_len]; exact h5) fun x hx => ?_
        obtain ⟨j, hj, rfl⟩ := List.mem_map.mp hx
        exact .int _ (h6 _ (List.mem_append_right _ hj))
  · exact bad_str
  · rcases h3 with rfl | ⟨na, ca, x, y, ys, q, rfl, k2, q3, q4, q5, q6, q7, q8, q9⟩
    · exact .tup h2 (n.ne h2) (Nat.zero_le _) fun x hx => by cases hx
    · refine .tup h2 (n.ne h2) (by show 3 ≤ 5000; decide) fun u hu => ?_
      rcases List.mem_cons.mp hu with rfl | hu
      · refine .tup q3 (n.ne q3) (by show 2 ≤ 5000; decide) fun u hu => ?_
        rcases List.mem_cons.mp hu with rfl | hu
        · exact q4.thg
        · rw [List.mem_singleton.mp hu]; exact q5.thg
      · rcases List.mem_cons.mp hu with rfl | hu
        · exact .int _ k2
        · rw [List.mem_singleton.mp hu]
          exact .tup q6 (n.ne q6) q7 fun u hu => (q8 u hu).thg
/-- what is read of a tree's rows -/
structure TrRd (es : List Ent) (t : Nat) (H : Hp) (hv : V) (la na : Addr) : Prop where
  pts : ∃ (a b c d : Nat) (is js : List Nat) (vs ws : List V), es[t]? = some (rowE [(a : Int), (b : Int), (c : Int), (d : Int)]) ∧ es[a]? = some (nameE "tree") ∧ (∀ h : Nat, hv = .int (h : Nat) ↔ es[b]? = some (numbE (h : Nat))) ∧ es[c]? = some (rowE (nInt is)) ∧ es[d]? = some (rowE (nInt js)) ∧ H la = some (.tup vs) ∧ H na = some (.tup ws) ∧ Paired (fun i v => LfRd es i H v) is vs ∧ Paired (fun i v => NdRd es i H v) js ws ∧ vs.length ≤ 400 ∧ ws.length ≤ 400
theorem TrRd.thg {b : Addr} {t : Nat} {H : Hp} {hv : V} {la na : Addr} (x : TrRd es t H hv la na) (n : NoTup H b) : Thg b H (.ref la) ∧ Thg b H (.ref na) := by
  obtain ⟨_, _, _, _, is, js, vs, ws, _, _, _, _, _, h1, h2, h3, h4, h5, h6⟩ := x.pts
  refine ⟨.tup h1 (n.ne h1) (by omega) fun v hv => ?_, .tup h2 (n.ne h2) (by omega) fun v hv => ?_⟩
  · obtain ⟨i, hi⟩ := List.getElem?_of_mem hv
    obtain ⟨l, _, r⟩ := L2.My.Paired.at h3 hi
    exact r.thg n
  · obtain ⟨i, hi⟩ := List.getElem?_of_mem hv
    obtain ⟨l, _, r⟩ := L2.My.Paired.at h4 hi
    exact r.thg n
theorem TrRd.good {b : Addr} {t : Nat} {H : Hp} {hv : V} {la na : Addr} (x : TrRd es t H hv la na) (n : NoTup H b) (e : badT H hv (.ref la) (.ref na) = none) : ∃ (h : Nat) (ls : List Lf) (ns : List Nd), hv = .int (h : Nat) ∧ LvsAt H la ls ∧ NdsAt H na ns ∧ TreeT es t h ls ns ∧ DrT h ls ns := by
  obtain ⟨t1, t2⟩ := x.thg n
  obtain ⟨a, b, c, d, is, js, vs, ws, g1, g2, g3, g4, g5, h1, h2, h3, h4, h5, h6⟩ := x.pts
  obtain ⟨h, la', na', ls, ns, rfl, e1, e2, hL, hN, dr⟩ := good_dr t1 t2 e
  cases e1
  cases e2
  refine ⟨h, ls, ns, rfl, hL, hN, ⟨a, b, c, d, is, js, g1, g2, (g3 h).mp rfl, g4, ?_, g5, ?_⟩, dr⟩
  · obtain ⟨vs', f1, f2⟩ := hL
    rw [h1] at f1
    cases f1
    exact paired_link (fun _ _ _ r s => r.to s) h3 f2
  · obtain ⟨vs', f1, f2⟩ := hN
    rw [h2] at f1
    cases f1
    exact paired_link (fun _ _ _ r s => r.to s) h4 f2
theorem TrRd.at {t : Nat} {H : Hp} {hv : V} {la na : Addr} {h : Nat} {ls : List Lf} {ns : List Nd} (x : TrRd es t H hv la na) (y : TreeT es t h ls ns) : hv = .int (h : Nat) ∧ LvsAt H la ls ∧ NdsAt H na ns := by
  obtain ⟨a, b, c, d, is, js, vs, ws, g1, g2, g3, g4, g5, h1, h2, h3, h4, h5, h6⟩ := x.pts
  obtain ⟨a', b', c', d', is', js', y1, y2, y3, y4, y5, y6, y7⟩ := y
  have e := row_inj (get2 g1 y1)
  obtain ⟨e1, e⟩ := List.cons.inj e
  obtain ⟨e2, e⟩ := List.cons.inj e
  obtain ⟨e3, e⟩ := List.cons.inj e
  obtain ⟨e4, e⟩ := List.cons.inj e
  obtain rfl := Int.ofNat_inj.mp e2
  obtain rfl := Int.ofNat_inj.mp e3
  obtain rfl := Int.ofNat_inj.mp e4
  obtain rfl := nInt_inj (row_inj (get2 g4 y4))
  obtain rfl := nInt_inj (row_inj (get2 g5 y6))
  exact ⟨(g3 h).mpr y3, ⟨vs, h1, paired_comp (R := fun i v => LfRd es i H v) (S := LeafT es) (T := LfAt H) (fun _ _ _ r s => r.at s) h3 y5⟩, ⟨ws, h2, paired_comp (R := fun i v => NdRd es i H v) (S := NodeT es) (T := NdAt H) (fun _ _ _ r s => r.at s) h4 y7⟩⟩
end
end L2.Bk
end
section
set_option Elab.async false
set_option linter.all false
set_option maxRecDepth 100000
set_option maxHeartbeats 4000000
/-! told_leaf, told_node. -/
namespace L2.Bk
open L2.My PySem PySem.Spec PyProof.Rows
abbrev sTl : Stmt := top 40
abbrev sTn : Stmt := top 41
section
variable {es : List Ent} {n : Int}
theorem num_rd (wf : WF n es) (t : Nat) : NumNon (partV es "number" t) ∧ ∀ j : Nat, partV es "number" t = .int (j : Nat) ↔ es[t]? = some (numbE (j : Nat)) := by
  cases he : es[t]? with
  | none =>
    have e : partV es "number" t = .non := by unfold partV; rw [he]
    rw [e]
    exact ⟨.inl rfl, fun j => ⟨(fun h => nomatch h), (fun h => nomatch h)⟩⟩
  | some e =>
    have ok := wf.ok t e he
    have key : ∀ (k : Str) (ks : List Key), e = (k, ks) → k ≠ "number" → NumNon (partV es "number" t) ∧ ∀ j : Nat, partV es "number" t = .int (j : Nat) ↔ some e = some (numbE (j : Nat)) := fun k ks h hk => by
      subst h
      have e : partV es "number" t = .non := by
        unfold partV
        rw [he]
        cases ks with
        | nil => rfl
        | cons x r => exact if_neg hk
      rw [e]
      refine ⟨.inl rfl, fun j => ⟨(fun h => nomatch h), fun h => ?_⟩⟩
      exact absurd (congrArg (fun e : Ent => e.1) (Option.some.inj h)) hk
    cases ok with
    | name x h => exact key _ _ rfl (by decide +kernel)
    | num i h0 h1 =>
      have e : partV es "number" t = .int i := by
        unfold partV
        rw [he]
        exact if_pos rfl
      rw [e]
      refine ⟨.inr ⟨i.toNat, by rw [Int.toNat_of_nonneg h0], ?_⟩, fun j => ⟨fun h => ?_, fun h => ?_⟩⟩
      · rw [Int.toNat_of_nonneg h0]
        exact Int.le_of_lt (Int.lt_of_lt_of_le h1 (by decide))
      · rw [V.int.inj h]
      · rw [numb_inj (Option.some.inj h)]
    | fresh i h0 => exact key _ _ rfl (by decide +kernel)
    | row is hl h => exact key _ _ rfl (by decide +kernel)
    | parts k is hk h => exact key _ _ rfl (sz_ne _ hk).2.2
theorem name_rd (wf : WF n es) (t : Nat) : (partV es "name" t = .non ∧ ∀ z, es[t]? ≠ some (nameE z)) ∨ ∃ z, partV es "name" t = .str z ∧ es[t]? = some (nameE z) ∧ z.length ≤ 40 := by
  cases he : es[t]? with
  | none => exact .inl ⟨by unfold partV; rw [he], fun z h => nomatch h⟩
  | some e =>
    have ok := wf.ok t e he
    have key : ∀ (k : Str) (ks : List Key), e = (k, ks) → k ≠ "name" → partV es "name" t = .non ∧ ∀ z, some e ≠ some (nameE z) := fun k ks h hk => by
      subst h
      refine ⟨?_, fun z h => absurd (congrArg (fun e : Ent => e.1) (Option.some.inj h)) hk⟩
      unfold partV
      rw [he]
      cases ks with
      | nil => rfl
      | cons x r => exact if_neg hk
    cases ok with
    | name x h =>
      refine .inr ⟨x, ?_, rfl, ?_⟩
      · unfold partV
        rw [he]
        exact if_pos rfl
      · have h' : (decide (x.length ≤ 40) && x.cps.toList.all goodC) = true := h
        rw [Bool.and_eq_true, decide_eq_true_eq] at h'
        exact h'.1
    | num i h0 h1 => exact .inl (key _ _ rfl (by decide +kernel))
    | fresh i h0 => exact .inl (key _ _ rfl (by decide +kernel))
    | row is hl h => exact .inl (key _ _ rfl (by decide +kernel))
    | parts k is hk h => exact .inl (key _ _ rfl (sz_ne _ hk).2.1)
theorem toNats : ∀ {is : List Int}, (∀ i ∈ is, 0 ≤ i) → ∃ js : List Nat, is = nInt js
  | [], _ => ⟨[], rfl⟩
  | i :: r, h => by
    obtain ⟨js, hj⟩ := toNats fun x hx => h x (List.mem_cons_of_mem _ hx)
    refine ⟨i.toNat :: js, ?_⟩
    show i :: r = ((i.toNat : Nat) : Int) :: nInt js
    rw [← hj, Int.toNat_of_nonneg (h i List.mem_cons_self)]
/-- a row as it is read -/
theorem row_rd (wf : WF n es) (t : Nat) (m : Option Nat) : (rowN es t m = none ∧ ∀ is : List Int, es[t]? = some (rowE is) → ∃ k, m = some k ∧ is.length ≠ k) ∨ ∃ is : List Nat, rowN es t m = some (nInt is) ∧ es[t]? = some (rowE (nInt is)) ∧ (∀ k, m = some k → is.length = k) ∧ is.length ≤ 400 ∧ ∀ i ∈ is, i < es.length := by
  cases he : es[t]? with
  | none => exact .inl ⟨by unfold rowN rowOf; rw [he], fun is h => nomatch h⟩
  | some e =>
    obtain ⟨k0, ks⟩ := e
    have ok := wf.ok t _ he
    have hlt := (List.getElem?_eq_some_iff.mp he).1
    by_cases hk : k0 = "row"
    · obtain ⟨o1, o2, o3⟩ := row_ok ok hk
      have hro : rowOf es t = some (ks.filterMap intK) := by unfold rowOf; rw [he]; exact if_pos hk
      obtain ⟨js, hj⟩ := toNats fun i hi => (o3 i hi).1
      have hks : ((k0, ks) : Ent) = rowE (nInt js) := by rw [hk]; show ((("row" : Str), ks) : Ent) = ((("row" : Str), ((nInt js).map Sum.inl : List Key)) : Ent); rw [← hj, ← o1]
      by_cases hm : ∀ k, m = some k → (ks.filterMap intK).length = k
      · refine .inr ⟨js, ?_, by rw [hks], fun k e => ?_, ?_, fun i hi => ?_⟩
        · unfold rowN
          rw [hro]
          dsimp only
          rw [if_pos hm, hj]
        · rw [← hm k e, hj, List.length_map]
        · rw [hj, List.length_map] at o2; exact o2
        · have := o3 (i : Int) (by rw [hj]; exact List.mem_map.mpr ⟨i, hi, rfl⟩)
          omega
      · refine .inl ⟨?_, fun is h => ?_⟩
        · unfold rowN
          rw [hro]
          dsimp only
          rw [if_neg hm]
        · have e1 : rowE (nInt js) = rowE is := by rw [← hks]; exact Option.some.inj h
          have e2 := row_inj e1
          refine Classical.byContradiction fun hn => hm fun k e => ?_
          refine Classical.byContradiction fun hne => hn ⟨k, e, ?_⟩
          rw [← e2, ← hj]
          exact hne
    · refine .inl ⟨?_, fun is h => absurd (congrArg (fun e : Ent => e.1) (Option.some.inj h)) hk⟩
      unfold rowN rowOf
      rw [he]
      dsimp only
      rw [if_neg hk]
/-- what a leaf's parts tell -/
theorem leaf_no (h0 : es[i]? ≠ some (numbE 0)) (hr : ∀ is : List Int, es[i]? = some (rowE is) → is.length ≠ 2) (l : Lf) : ¬ LeafT es i l := fun h => by
  cases l with
  | none => exact h0 h
  | some p => obtain ⟨a, x1, _⟩ := h; exact hr _ x1 rfl
theorem node_no (hr : ∀ is : List Int, es[i]? = some (rowE is) → is.length ≠ 4) (m : Nd) : ¬ NodeT es i m := fun h => by
  obtain ⟨a, b, c, js, x1, _⟩ := h
  exact hr _ x1 rfl
theorem two_of {is : List Nat} (h : is.length = 2) : ∃ a b, is = [a, b] := by
  match is, h with
  | [a, b], _ => exact ⟨a, b, rfl⟩
theorem four_of {is : List Nat} (h : is.length = 4) : ∃ a b c d, is = [a, b, c, d] := by
  match is, h with
  | [a, b, c, d], _ => exact ⟨a, b, c, d, rfl⟩
/-- a leaf of two parts -/
theorem leaf_two (wf : WF n es) {a b : Nat} (he : es[i]? = some (rowE (nInt [a, b]))) (hb : ((b : Nat) : Int) ≤ maxI) {H : Hp} {p : Addr} (hp : H p = some (.tup [partV es "name" a, .int (b : Nat)])) : LfRd es i H (.ref p) := by
  rcases name_rd wf a with ⟨e1, e2⟩ | ⟨z, e1, e2, e3⟩
  · rw [e1] at hp
    refine .inr ⟨fun l hl => ?_, .inr ⟨p, _, rfl, hp, .inr ⟨_, rfl, hb⟩⟩⟩
    cases l with
    | none => exact numb_row (get2 hl he)
    | some q =>
      obtain ⟨a', x1, x2⟩ := hl
      have e := row_inj (get2 x1 he)
      have e : [(a' : Int), q.2] = [(a : Int), (b : Int)] := e
      obtain ⟨f1, _⟩ := List.cons.inj e
      rw [Int.ofNat_inj.mp f1] at x2
      exact e2 _ x2
  · rw [e1] at hp
    exact .inl ⟨some (z, (b : Nat)), ⟨a, he, e2⟩, ⟨p, rfl, hp⟩, fun z' k e => by cases e; exact ⟨e3, hb⟩⟩
theorem nums_rd (wf : WF n es) : ∀ (js : List Nat), (∃ xs : List Nat, NumsT es js xs ∧ js.map (partV es "number") = nN xs ∧ ∀ x ∈ xs, ((x : Nat) : Int) ≤ maxI) ∨ ((∀ xs, ¬ NumsT es js xs) ∧ .non ∈ js.map (partV es "number"))
  | [] => .inl ⟨[], .nil, rfl, fun x hx => by cases hx⟩
  | j :: r => by
    obtain ⟨n1, n2⟩ := num_rd wf j
    rcases n1 with e | ⟨x, e, hx⟩
    · refine .inr ⟨fun xs h => ?_, ?_⟩
      · cases h with
        | cons h1 _ => rw [(n2 _).mpr h1] at e; cases e
      · rw [List.map_cons, e]; exact List.mem_cons_self
    · rcases nums_rd wf r with ⟨xs, h1, h2, h3⟩ | ⟨h1, h2⟩
      · refine .inl ⟨x :: xs, .cons ((n2 x).mp e) h1, ?_, fun y hy => ?_⟩
        · rw [List.map_cons, e, h2]; rfl
        · rcases List.mem_cons.mp hy with rfl | hy
          · exact hx
          · exact h3 y hy
      · refine .inr ⟨fun xs h => ?_, by rw [List.map_cons]; exact List.mem_cons_of_mem _ h2⟩
        cases h with
        | cons _ h' => exact h1 _ h'
theorem node_rd (wf : WF n es) {a b c d : Nat} {js : List Nat} (he : es[i]? = some (rowE (nInt [a, b, c, d]))) (hd : es[d]? = some (rowE (nInt js))) (hl : js.length ≤ 400) (hc : ((c : Nat) : Int) ≤ maxI) {H : Hp} {p na ca : Addr} (hp : H p = some (.tup [.ref na, .int (c : Nat), .ref ca])) (hna : H na = some (.tup [partV es "number" a, partV es "number" b])) (hca : H ca = some (.tup (js.map (partV es "number")))) : NdRd es i H (.ref p) := by
  obtain ⟨a1, a2⟩ := num_rd wf a
  obtain ⟨b1, b2⟩ := num_rd wf b
  have un : ∀ m : Nd, NodeT es i m → partV es "number" a = .int (m.1.1 : Nat) ∧ partV es "number" b = .int (m.1.2 : Nat) ∧ NumsT es js m.2.2 := fun m hm => by
    obtain ⟨a', b', c', js', x1, x2, x3, x4, x5⟩ := hm
    have e := row_inj (get2 x1 he)
    have e : [(a' : Int), (b' : Int), m.2.1, (c' : Int)] = [(a : Int), (b : Int), (c : Int), (d : Int)] := e
    obtain ⟨e1, e⟩ := List.cons.inj e
    obtain ⟨e2, e⟩ := List.cons.inj e
    obtain ⟨e3, e⟩ := List.cons.inj e
    obtain ⟨e4, e⟩ := List.cons.inj e
    obtain rfl := Int.ofNat_inj.mp e1
    obtain rfl := Int.ofNat_inj.mp e2
    obtain rfl := Int.ofNat_inj.mp e4
    obtain rfl := nInt_inj (row_inj (get2 x4 hd))
    exact ⟨(a2 _).mpr x2, (b2 _).mpr x3, x5⟩
  have bad : (∀ m, ¬ NodeT es i m) → (partV es "number" a = .non ∨ partV es "number" b = .non ∨ .non ∈ js.map (partV es "number")) → NdRd es i H (.ref p) := fun h1 h2 =>
    .inr ⟨h1, .inr ⟨p, _, rfl, hp, .inr ⟨na, ca, _, _, _, (c : Nat), rfl, hc, hna, a1, b1, hca, by rw [List.length_map]; omega, fun u hu => by
      obtain ⟨j, _, rfl⟩ := List.mem_map.mp hu
      exact (num_rd wf j).1, h2⟩⟩⟩
  rcases a1 with ea | ⟨x, ea, hx⟩
  · exact bad (fun m hm => by have := (un m hm).1; rw [ea] at this; cases this) (.inl ea)
  · rcases b1 with eb | ⟨y, eb, hy⟩
    · exact bad (fun m hm => by have := (un m hm).2.1; rw [eb] at this; cases this) (.inr (.inl eb))
    · rcases nums_rd wf js with ⟨xs, h1, h2, h3⟩ | ⟨h1, h2⟩
      · refine .inl ⟨((x, y), ((c : Nat), xs)), ⟨a, b, d, js, he, (a2 x).mp ea, (b2 y).mp eb, hd, h1⟩, ⟨p, na, ca, rfl, hp, by rw [hna, ea, eb], by rw [hca, h2]⟩, hc, ?_, fun j hj => ?_⟩
        · show xs.length ≤ 5000
          have := Paired.len h1
          omega
        · simp only [List.cons_append, List.nil_append, List.mem_cons] at hj
          rcases hj with rfl | rfl | hj
          · exact hx
          · exact hy
          · exact h3 j hj
      · exact bad (fun m hm => h1 _ (un m hm).2.2) (.inr (.inr h2))
end
def spTl (P : Program) (w : World) (C : Addr) : Sp := fun vs H Q _ => ∃ (B : BP) (es : List Ent) (t : Nat), vs = [.ref B.b, .int (t : Nat)] ∧ BookAt P w H C B es ∧ t < es.length ∧ ∀ H' v, Same H H' → LfRd es t H' v → Q v H'
def spTn (P : Program) (w : World) (C : Addr) : Sp := fun vs H Q _ => ∃ (B : BP) (es : List Ent) (t : Nat), vs = [.ref B.b, .int (t : Nat)] ∧ BookAt P w H C B es ∧ t < es.length ∧ ∀ H' v, Same H H' → NdRd es t H' v → Q v H'
theorem le_maxI {k : Nat} (h : k ≤ 30000) : ((k : Nat) : Int) ≤ maxI := Int.le_trans (show ((k : Nat) : Int) ≤ 30000 by omega) (by decide)
section
variable {P : Program} {w : World} {K : PySem.W.Frag} {mg : Str → Option Value} {base : Heap} {C C2 : Addr}
theorem scTl : FnScope ["book", "term", "parts"] ["book", "term"] (defScope sTl) := ⟨rfl, rfl, rfl, by decide +kernel, rfl, by decide +kernel, by decide +kernel⟩
theorem ok_tl {f : Addr} {fd : FuncData} {k : Nat} (F : Fun K "told_leaf" "told_leaf" sTl f fd) (cP : Cal P w K mg base (k + 5) "told_part" ["book", "kind", "term"] (spTp P w C)) (cR : Cal P w K mg base (k + 5) "told_row" ["book", "term", "count"] (spTw P w C)) : FnOk P w K mg base CX0 (k + 6) f fd ["book", "term"] (spTl P w C) := by
  refine F.ok scTl (fun vs H Q E h => ?_) (fun cdv A outer s H vs Q E hr h => ?_)
  · obtain ⟨B, es, t, rfl, _⟩ := h
    rfl
  · obtain ⟨B, es, t, rfl, hB, ht, q⟩ := h
    refine ⟨_, (pss_cons (ps_if (pt_cmpR op_eq (pe_c cP hr (by omega) (by rfl) (pa_cons (pv 0) (pa_cons pe_str (pa_cons (pv 1) pa_nil)))) pe_int (nomark _)) (pss_one (ps_ret pe_non)) pss_nil) (pss_cons (ps_set (i := 2) scTl.nd rfl (Or.inl rfl) (pe_c cR hr (by omega) (by rfl) (pa_cons (pv 0) (pa_cons (pv 1) (pa_cons pe_int pa_nil))))) (pss_one (ps_ret (pe_ifExp (pt_cmpR op_isN (pv 2) pe_non (nomark _)) (pe_tup pa_nil) (pe_tup (pa_cons (pe_c cP hr (by omega) (by rfl) (pa_cons (pv 0) (pa_cons pe_str (pa_cons (pe_ix ix_tup (pv 2) pe_int (fun _ _ => rfl)) pa_nil)))) (pa_cons (pe_ix ix_tup (pv 2) pe_int (fun _ _ => rfl)) pa_nil)))))))), ?_⟩
    obtain ⟨n1, n2⟩ := num_rd hB.wf t
    refine seq_use (t := tIfS _ _ _) (fun σ G => σ = [some (.ref B.b), some (.int (t : Nat)), none] ∧ G = H ∧ es[t]? ≠ some (numbE 0)) ?_ (fun hrest => ?_)
    · rintro σ G ⟨rfl, rfl, h0⟩
      refine ⟨_, rfl, _, rfl, B, es, t, some 2, rfl, hB, ht, fun v hv => ?_⟩
      rcases row_rd hB.wf t (some 2) with ⟨e1, e2⟩ | ⟨is, e1, e2, e3, e4, e5⟩
      · rw [e1] at hv
        obtain rfl : v = .non := hv
        refine ⟨_, rfl, rfl, _, rfl, iteT ⟨Nat.zero_le _, fun p np => q _ _ (same_upd np) (.inr ⟨leaf_no h0 fun is hi => ?_, .inr ⟨p, [], rfl, upd_same, .inl rfl⟩⟩)⟩⟩
        obtain ⟨k, hk, hne⟩ := e2 is hi
        cases hk
        exact hne
      · rw [e1] at hv
        obtain ⟨a, b, rfl⟩ := two_of (e3 2 rfl)
        obtain ⟨p, rfl, hp⟩ := hv
        have ha := e5 a (by simp)
        have hb := e5 b (by simp)
        have hlen := hB.len
        refine ⟨_, rfl, rfl, _, rfl, iteF ?_⟩
        refine ⟨_, rfl, _, rfl, p, _, _, .int (a : Nat), rfl, rfl, .of hp, atI_nat (j := 0) rfl, B, es, "name", a, rfl, hB, ha, .inl rfl, ?_⟩
        refine ⟨_, rfl, p, _, _, .int (b : Nat), rfl, rfl, .of hp, atI_nat (j := 1) rfl, by show 2 ≤ sizeLine; decide, fun r nr => ?_⟩
        exact q _ _ (same_upd nr) (leaf_two hB.wf e2 (le_maxI (by omega)) upd_same)
    · refine ⟨_, rfl, _, rfl, B, es, "number", t, rfl, hB, ht, .inr rfl, ?_⟩
      rcases n1 with e | ⟨j, e, _⟩
      · rw [e]
        refine ⟨rfl, _, rfl, ?_⟩
        rw [show decide (V.non = V.int 0) = false from decide_eq_false fun z => nomatch z]
        exact iteF (hrest _ _ ⟨rfl, rfl, fun h => by rw [(n2 0).mpr h] at e; cases e⟩)
      · rw [e]
        refine ⟨rfl, _, rfl, ?_⟩
        rw [dec_int]
        by_cases hj : j = 0
        · subst hj
          refine iteT (q _ _ (fun _ _ h => h) (.inl ⟨none, (n2 0).mp e, rfl, fun z k h => nomatch h⟩))
        · rw [show (((j : Nat) : Int) == 0) = false from beq_eq_false_iff_ne.mpr (by omega)]
          exact iteF (hrest _ _ ⟨rfl, rfl, fun h => hj (by rw [(n2 0).mpr h] at e; have := V.int.inj e; omega)⟩)
abbrev nTn : List Str := ["book", "term", "parts", "aside", "node", "leaf"]
theorem scTn : FnScope nTn ["book", "term"] (defScope sTn) := ⟨rfl, rfl, rfl, by decide +kernel, rfl, by decide +kernel, by decide +kernel⟩
theorem ok_tn {f : Addr} {fd : FuncData} {k : Nat} (F : Fun K "told_node" "told_node" sTn f fd) (T : Tx mg) (cP : Cal P w K mg base (k + 5) "told_part" ["book", "kind", "term"] (spTp P w C)) (cR : Cal P w K mg base (k + 5) "told_row" ["book", "term", "count"] (spTw P w C)) : FnOk P w K mg base CX0 (k + 6) f fd ["book", "term"] (spTn P w C) := by
  refine F.ok scTn (fun vs H Q E h => ?_) (fun cdv A outer s H vs Q E hr h => ?_)
  · obtain ⟨B, es, t, rfl, _⟩ := h
    rfl
  · obtain ⟨B, es, t, rfl, hB, ht, q⟩ := h
    refine ⟨_, (pss_cons (ps_set (i := 2) scTn.nd rfl (Or.inl rfl) (pe_c cR hr (by omega) (by rfl) (pa_cons (pv 0) (pa_cons (pv 1) (pa_cons pe_int pa_nil))))) (pss_cons (ps_set (i := 3) scTn.nd rfl (Or.inl rfl) (pe_ifExp (pt_cmpR op_isN (pv 2) pe_non (nomark _)) pe_non (pe_c cR hr (by omega) (by rfl) (pa_cons (pv 0) (pa_cons (pe_ix ix_tup (pv 2) pe_int (fun _ _ => rfl)) (pa_cons pe_non pa_nil)))))) (pss_cons (ps_if (pt_cmpR op_isN (pv 3) pe_non (nomark _)) (pss_one (ps_ret (pe_tup pa_nil))) pss_nil) (pss_cons (ps_set (i := 4) scTn.nd rfl (Or.inl rfl) (pe_tup (pa_cons (pe_c cP hr (by omega) (by rfl) (pa_cons (pv 0) (pa_cons pe_str (pa_cons (pe_ix ix_tup (pv 2) pe_int (fun _ _ => rfl)) pa_nil)))) (pa_cons (pe_c cP hr (by omega) (by rfl) (pa_cons (pv 0) (pa_cons pe_str (pa_cons (pe_ix ix_tup (pv 2) pe_int (fun _ _ => rfl)) pa_nil)))) pa_nil)))) (pss_one (ps_ret (pe_tup (pa_cons (pv 4) (pa_cons (pe_ix ix_tup (pv 2) pe_int (fun _ _ => rfl)) (pa_cons (pe_tupleOf (by rfl) T.tuple_ (pe_lc (own := [("leaf", 5)]) (g := gName 5) (te := tCall (spTp P w C) [] E0 (tCons (tVar 0) (tCons (tC (.str "number")) (tCons (tVar 5) tNil)))) rfl scTn.nd (pi_tup (pv 3)) (blkOk_by (N := nTn) (sc := defScope sTn) (by decide +kernel)) (fun _ _ _ _ _ => pg_name (i := 5) scTn.nd rfl (Or.inl rfl)) (fun _ _ _ _ _ => pts_nil) (fun _ _ _ _ _ => (pe_c cP hr (by omega) (by rfl) (pa_cons (pv 0) (pa_cons pe_str (pa_cons (pv 5) pa_nil))))))) pa_nil)))))))))), ?_⟩
    have bad : (∀ is : List Int, es[t]? = some (rowE is) → is.length ≠ 4) → ∀ p, H p = none → Q (.ref p) (upd H p (.tup [])) := fun hr p np => q _ _ (same_upd np) (.inr ⟨node_no hr, .inr ⟨p, [], rfl, upd_same, .inl rfl⟩⟩)
    refine ⟨_, rfl, _, rfl, B, es, t, some 4, rfl, hB, ht, fun v hv => ?_⟩
    rcases row_rd hB.wf t (some 4) with ⟨e1, e2⟩ | ⟨is, e1, e2, e3, e4, e5⟩
    · rw [e1] at hv
      obtain rfl : v = .non := hv
      refine ⟨_, rfl, rfl, _, rfl, iteT ?_⟩
      refine ⟨_, rfl, rfl, _, rfl, iteT ⟨Nat.zero_le _, fun p np => bad (fun is hi => ?_) p np⟩⟩
      obtain ⟨k, hk, hne⟩ := e2 is hi
      cases hk
      exact hne
    · rw [e1] at hv
      obtain ⟨a, b, c, d, rfl⟩ := four_of (e3 4 rfl)
      obtain ⟨p, rfl, hp⟩ := hv
      have ha := e5 a (by simp)
      have hb := e5 b (by simp)
      have hc := e5 c (by simp)
      have hd := e5 d (by simp)
      have hlen := hB.len
      refine ⟨_, rfl, rfl, _, rfl, iteF ?_⟩
      refine ⟨_, rfl, _, rfl, p, _, _, .int (d : Nat), rfl, rfl, .of hp, atI_nat (j := 3) rfl, B, es, d, none, rfl, hB, hd, fun v2 hv2 => ?_⟩
      rcases row_rd hB.wf d none with ⟨f1, f2⟩ | ⟨js, f1, f2, f3, f4, f5⟩
      · rw [f1] at hv2
        obtain rfl : v2 = .non := hv2
        refine ⟨_, rfl, rfl, _, rfl, iteT ⟨Nat.zero_le _, fun p2 np => q _ _ (same_upd np) (.inr ⟨fun m hm => ?_, .inr ⟨p2, [], rfl, upd_same, .inl rfl⟩⟩)⟩⟩
        obtain ⟨a', b', c', js', x1, x2, x3, x4, x5⟩ := hm
        have e := row_inj (get2 x1 e2)
        have e : [(a' : Int), (b' : Int), m.2.1, (c' : Int)] = [(a : Int), (b : Int), (c : Int), (d : Int)] := e
        obtain ⟨_, e⟩ := List.cons.inj e
        obtain ⟨_, e⟩ := List.cons.inj e
        obtain ⟨_, e⟩ := List.cons.inj e
        obtain ⟨e4', _⟩ := List.cons.inj e
        rw [Int.ofNat_inj.mp e4'] at x4
        obtain ⟨k, hk, _⟩ := f2 _ x4
        cases hk
      · rw [f1] at hv2
        obtain ⟨p2, rfl, hp2⟩ := hv2
        refine ⟨_, rfl, rfl, _, rfl, iteF ?_⟩
        refine ⟨_, rfl, _, rfl, p, _, _, .int (a : Nat), rfl, rfl, .of hp, atI_nat (j := 0) rfl, B, es, "number", a, rfl, hB, ha, .inr rfl, ?_⟩
        refine ⟨_, rfl, _, rfl, p, _, _, .int (b : Nat), rfl, rfl, .of hp, atI_nat (j := 1) rfl, B, es, "number", b, rfl, hB, hb, .inr rfl, by show 2 ≤ sizeLine; decide, fun na nna => ?_⟩
        have u1 := same_upd (o := HO.tup [partV es "number" a, partV es "number" b]) nna
        have hna : (upd H na (.tup [partV es "number" a, partV es "number" b])) na = some (.tup [partV es "number" a, partV es "number" b]) := upd_same
        generalize upd H na (.tup [partV es "number" a, partV es "number" b]) = H1 at *
        have hB1 := hB.same u1
        refine ⟨_, rfl, _, rfl, p, _, _, .int (c : Nat), rfl, rfl, .of (u1 _ _ hp), atI_nat (j := 2) rfl, _, rfl, p2, rfl, ⟨_, .of (u1 _ _ hp2)⟩, fun D nD => ?_⟩
        refine lcP (walk_tup (xs := (nInt js).map V.int)) (fun i => partV es "number" (js.getD i 0)) (Nat.lt_of_le_of_lt (show ((nInt js).map V.int).length ≤ 400 by rw [List.length_map, List.length_map]; exact f4) (by decide)) nD (fun _ sm => .of (sm _ _ (u1 _ _ hp2))) ?_ ?_
        · rintro i y G6 G7 Q' hi sm ⟨rfl, hy⟩ hq
          rw [List.getElem?_map, List.getElem?_map, Option.map_map] at hy
          obtain ⟨j, hj, rfl⟩ := Option.map_eq_some_iff.mp hy
          have eg : js.getD i 0 = j := by rw [List.getD_eq_getElem?_getD, hj]; rfl
          rw [eg] at hq
          refine ⟨rfl, ?_⟩
          show tCall (spTp P w C) [] E0 (tCons (tVar 0) (tCons (tC (.str "number")) (tCons (tVar 5) tNil))) _ _ _
          exact ⟨_, rfl, _, rfl, B, es, "number", j, rfl, hB1.same sm, f5 j (List.mem_of_getElem? hj), .inr rfl, hq _ (Same.refl _)⟩
        · intro G6 s6 hd6
          have el : (List.range ((nInt js).map V.int).length).map (fun i => partV es "number" (js.getD i 0)) = js.map (partV es "number") := by
            rw [List.length_map, List.length_map, range_getD]
          rw [el] at hd6
          refine .inl ⟨D, _, rfl, .of hd6, fun ca nca => ⟨by show 3 ≤ sizeLine; decide, fun r nr => ?_⟩⟩
          have u2 := same_upd (o := HO.tup (js.map (partV es "number"))) nca
          have u3 := same_upd (o := HO.tup [.ref na, .int (c : Nat), .ref ca]) nr
          exact q _ _ (((u1.trans s6).trans u2).trans u3) (node_rd hB.wf e2 f2 f4 (le_maxI (by omega)) upd_same (u3 _ _ (u2 _ _ (s6 _ _ hna))) (u3 _ _ upd_same))
end
end L2.Bk
end
section
set_option Elab.async false
set_option linter.all false
set_option maxRecDepth 100000
set_option maxHeartbeats 4000000
/-! tree_of. -/
namespace L2.Bk
open L2.My PySem PySem.Spec PyProof.Rows
abbrev sTo : Stmt := top 39
/-- a comprehension whose calls only add things -/
theorem lcS {J : It} {n : Nat} {G : Hp → Prop} {Y : Nat → Hp → V → Hp → Prop} {D : Addr} {H1 : Hp} {Qd : Hp → Prop} {σ : St} {g : TG} {tt : TT} {te : TE} {vs : List Nat} (w : Walk J n G Y) (R : Hp → Nat → List V → Prop) (hn : n < sizeLine) (hD : H1 D = none)
    (hR : ∀ H H' i acc, TK H H' → R H i acc → R H' i acc) (hG : ∀ H', Same H1 H' → G H') (h0 : R H1 0 [])
    (hs : ∀ i x H H' (Q' : VK) (N' : Hp → Prop) acc, i < n → Same H1 H → R H i acc → Y i H x H' → (∀ v H4, Same H H4 → R H4 (i + 1) (acc ++ [v]) → Q' v H4) →
      g x (wipe σ vs) H' fun σ2 H2 => wipe σ2 vs = wipe σ vs ∧ tt σ2 H2 fun c H3 => if c = true then te σ2 H3 Q' else N' H3)
    (hd : ∀ H acc, Same H1 H → H D = some (.lst acc) → R H n acc → acc.length ≤ n → Qd H) : CompOut J g tt te vs σ D Qd H1 := by
  refine lc_it w (fun i H => Same H1 H ∧ ∃ acc, H D = some (.lst acc) ∧ R H i acc ∧ acc.length ≤ i) ⟨same_upd hD, [], upd_same, hR _ _ _ _ (TK.same (same_upd hD)) h0, Nat.le_refl _⟩ (fun i H _ h => hG H h.1) ?_ (fun H ⟨h1, acc, h3, h4, h5⟩ => hd H acc h1 h3 h4 h5)
  rintro i x H H' hi ⟨sm, acc, hacc, hR0, hlen⟩ y
  refine hs i x H H' _ _ acc hi sm hR0 y fun v H4 s4 hR4 => ?_
  have hacc4 := s4 _ _ hacc
  exact ⟨acc, hacc4, by omega, same_put (sm.trans s4) hD, acc ++ [v], upd_same, hR _ _ _ _ (TK.upd hacc4 fun xs e => nomatch e) hR4, by rw [List.length_append, List.length_singleton]; omega⟩
def dRow : Option (List Int) → PyData
  | some is => .tuple (is.map PyData.int)
  | none => .none
theorem dp_ints {K : PySem.W.Frag} {H : Hp} : ∀ is : List Int, DpAll K H (is.map V.int) (is.map PyData.int)
  | [] => .nil
  | i :: r => .cons (.int i) (dp_ints r)
theorem dp_row {K : PySem.W.Frag} {H : Hp} {v : V} {o : Option (List Int)} (h : RowV H v o) : Dp K H v (dRow o) := by
  cases o with
  | none => obtain rfl : v = .non := h; exact .non
  | some is => obtain ⟨p, rfl, hp⟩ := h; exact .tup (.of hp) (dp_ints is)
theorem can_ints : ∀ is : List Int, PyData.canLayAll0 (is.map PyData.int) = true
  | [] => rfl
  | i :: r => by rw [List.map_cons, PyData.canLayAll0, PyData.canLay0, can_ints r]; rfl
theorem dep_ints : ∀ is : List Int, PyData.depthAll (is.map PyData.int) ≤ 1
  | [] => by decide
  | i :: r => by
    have := dep_ints r
    simp only [List.map_cons, PyData.depthAll, PyData.depth]
    omega
theorem can_row (o : Option (List Int)) : PyData.canLay0 (dRow o) = true := by
  cases o with
  | none => rfl
  | some is => show PyData.canLay0 (.tuple (is.map PyData.int)) = true; rw [PyData.canLay0]; exact can_ints is
theorem dep_row (o : Option (List Int)) : PyData.depth (dRow o) ≤ 2 := by
  cases o with
  | none => decide
  | some is =>
    have := dep_ints is
    show PyData.depth (.tuple (is.map PyData.int)) ≤ 2
    simp only [PyData.depth]
    omega
theorem shaped_rows (o1 o2 : Option (List Int)) : SeqAt.shaped (.list [dRow o1, dRow o2]) = true := by
  have h1 : PyData.canLay0 (.list [dRow o1, dRow o2]) = true := by
    rw [PyData.canLay0, PyData.canLayAll0, PyData.canLayAll0, can_row, can_row]
    rfl
  have d1 := dep_row o1
  have d2 := dep_row o2
  unfold SeqAt.shaped
  rw [h1, Bool.true_and]
  refine decide_eq_true ?_
  simp only [PyData.depth, PyData.depthAll]
  omega
theorem row_none (o : Option (List Int)) : PyData.eqv (dRow o) .none = o.isNone := by
  cases o with
  | none => rfl
  | some is => rfl
/-- None in [row, row] -/
theorem rIn_rows {K : PySem.W.Frag} {H : Hp} {a : Addr} {v1 v2 : V} {o1 o2 : Option (List Int)} {Q : VK} (h : H a = some (.lst [v1, v2])) (h1 : RowV H v1 o1) (h2 : RowV H v2 o2) (q : Q (.bl (o1.isNone || o2.isNone)) H) : rInD K .non (.ref a) H Q :=
  ⟨.none, [dRow o1, dRow o2], .non, .lst (.of h) (.cons (dp_row h1) (.cons (dp_row h2) .nil)), by decide +kernel, shaped_rows o1 o2, by
    rw [List.any_cons, List.any_cons, List.any_nil, row_none, row_none, Bool.or_false]; exact q⟩
theorem RowV.tk {H H' : Hp} {v : V} {o : Option (List Int)} (h : RowV H v o) (t : TK H H') : RowV H' v o := by
  cases o with
  | none => exact h
  | some is => obtain ⟨p, e, hp⟩ := h; exact ⟨p, e, t _ _ hp⟩
def spTo (P : Program) (w : World) (C CT : Addr) : Sp := fun vs H Q _ => ∃ (B : BP) (es : List Ent) (t : Nat), vs = [.ref B.b, .int (t : Nat)] ∧ BookAt P w H C B es ∧ t < es.length ∧
  (∀ H' x dx la na h ls ns, Same H H' → H x = none → TreeAt H' CT x dx la na h ls ns → TreeT es t h ls ns → DrT h ls ns → Q (.ref x) H') ∧ ((∀ h ls ns, TreeT es t h ls ns → ¬ DrT h ls ns) → ∀ H', Same H H' → Q .non H')
section
variable {P : Program} {w : World} {K : PySem.W.Frag} {mg : Str → Option Value} {base : Heap} {C CT BT : Addr}
abbrev nTo : List Str := ["book", "term", "parts", "rows", "leaves", "nodes", "part", "leaf", "node"]
theorem scTo : FnScope nTo ["book", "term"] (defScope sTo) := ⟨rfl, rfl, rfl, by decide +kernel, rfl, by decide +kernel, by decide +kernel⟩
theorem ok_to {f : Addr} {fd : FuncData} {k : Nat} (F : Fun K "tree_of" "tree_of" sTo f fd) (T : Tx mg) (N : BadC P w K mg base BT) (R : MkT P w K mg base (k + 5) CT BT) (cP : Cal P w K mg base (k + 5) "told_part" ["book", "kind", "term"] (spTp P w C)) (cR : Cal P w K mg base (k + 5) "told_row" ["book", "term", "count"] (spTw P w C)) (cL : Cal P w K mg base (k + 6) "told_leaf" ["book", "term"] (spTl P w C)) (cN : Cal P w K mg base (k + 6) "told_node" ["book", "term"] (spTn P w C)) : FnOk P w K mg base CX0 (k + 7) f fd ["book", "term"] (spTo P w C CT) := by
  refine F.ok scTo (fun vs H Q E h => ?_) (fun cdv A outer s H vs Q E hr h => ?_)
  · obtain ⟨B, es, t, rfl, _⟩ := h
    rfl
  · obtain ⟨B, es, t, rfl, hB, ht, qy, qn⟩ := h
    refine ⟨_, (pss_cons (ps_set (i := 2) scTo.nd rfl (Or.inl rfl) (pe_c cR hr (by omega) (by rfl) (pa_cons (pv 0) (pa_cons (pv 1) (pa_cons pe_int pa_nil))))) (pss_cons (ps_if (pt_or (pt_cmpR op_isN (pv 2) pe_non (nomark _)) (pw_or1 (pt_cmpR op_ne (pe_c cP hr (by omega) (by rfl) (pa_cons (pv 0) (pa_cons pe_str (pa_cons (pe_ix ix_tup (pv 2) pe_int (fun _ _ => rfl)) pa_nil)))) pe_str (nomark _)))) (pss_one (ps_ret pe_non)) pss_nil) (pss_cons (ps_setLc (own := [("part", 6)]) (i := 3) (g := gName 6) (te := tCall (spTw P w C) [] E0 (tCons (tVar 0) (tCons (tVar 6) (tCons (tC .non) tNil)))) rfl scTo.nd rfl rfl (sw_true rfl rfl rfl (by decide +kernel)) (pi_tup (pe_slice sl_tupA (pv 2) (po_some pe_int) po_none)) (blkOk_by (N := nTo) (sc := defScope sTo) (by decide +kernel)) (fun _ _ _ _ _ => pg_name (i := 6) scTo.nd rfl (Or.inl rfl)) (fun _ _ _ _ _ => pts_nil) (fun _ _ _ _ _ => (pe_c cR hr (by omega) (by rfl) (pa_cons (pv 0) (pa_cons (pv 6) (pa_cons pe_non pa_nil)))))) (pss_cons (ps_if (pt_cmpR (op_inD (u65 hr)) pe_non (pv 3) rfl) (pss_one (ps_ret pe_non)) pss_nil) (pss_cons (ps_setLc (own := [("leaf", 7)]) (i := 4) (g := gName 7) (te := tCall (spTl P w C) [] E0 (tCons (tVar 0) (tCons (tVar 7) tNil))) rfl scTo.nd rfl rfl (sw_true rfl rfl rfl (by decide +kernel)) (pi_tup (pe_ix ix_list (pv 3) pe_int (fun _ _ => rfl))) (blkOk_by (N := nTo) (sc := defScope sTo) (by decide +kernel)) (fun _ _ _ _ _ => pg_name (i := 7) scTo.nd rfl (Or.inl rfl)) (fun _ _ _ _ _ => pts_nil) (fun _ _ _ _ _ => (pe_c cL hr (by omega) (by rfl) (pa_cons (pv 0) (pa_cons (pv 7) pa_nil))))) (pss_cons (ps_setLc (own := [("node", 8)]) (i := 5) (g := gName 8) (te := tCall (spTn P w C) [] E0 (tCons (tVar 0) (tCons (tVar 8) tNil))) rfl scTo.nd rfl rfl (sw_true rfl rfl rfl (by decide +kernel)) (pi_tup (pe_ix ix_list (pv 3) pe_int (fun _ _ => rfl))) (blkOk_by (N := nTo) (sc := defScope sTo) (by decide +kernel)) (fun _ _ _ _ _ => pg_name (i := 8) scTo.nd rfl (Or.inl rfl)) (fun _ _ _ _ _ => pts_nil) (fun _ _ _ _ _ => (pe_c cN hr (by omega) (by rfl) (pa_cons (pv 0) (pa_cons (pv 8) pa_nil))))) (pss_one (ps_try_only (X := (cxOf CX0 P w K mg base nTo "tree_of" (defScope sTo) f cdv A outer s H E).nox) (c := .ref BT)
        (tb := fun W D σ H => ∃ Ech : XK, (∀ cls d σ' H', Ech cls d H' → W cls d σ' H') ∧ tRet (tMake CT (spTree CT BT) [] Ech (tCons (tCall (spTp P w C) [] E0 (tCons (tVar 0) (tCons (tC (.str "number")) (tCons (tOp (rIxT K) (tVar 2) (tC (.int 1))) tNil)))) (tCons (tThen (tVar 4) (kTup K)) (tCons (tThen (tVar 5) (kTup K)) tNil)))) D σ H)
        rfl rfl ⟨rfl, rfl, .inl N.g⟩ takes0 (fun W pn xe tk _ => ?_) (fun a oe cls d pn _ _ => (pss_one (ps_ret pe_non))))))))))), ?_⟩
    · refine ⟨fun pins s' σ H' D I h' => ?_⟩
      obtain ⟨Ech, hW, h1⟩ := h'
      exact ((pss_one (ps_ret (pe_make R.M R.F (hr.mono (by omega)) (by rfl) R.g R.b .nil (passes_call tk hW) (pa_cons (pe_c cP hr (by omega) (by rfl) (pa_cons (pv 0) (pa_cons pe_str (pa_cons (pe_ix ix_tup (pv 2) pe_int (fun _ _ => rfl)) pa_nil)))) (pa_cons (pe_tupleOf (by rfl) T.tuple_ (pv 4)) (pa_cons (pe_tupleOf (by rfl) T.tuple_ (pv 5)) pa_nil))))))).run pins s' σ H' D I h1
    · refine ⟨_, rfl, _, rfl, B, es, t, some 4, rfl, hB, ht, fun v hv => ?_⟩
      rcases row_rd hB.wf t (some 4) with ⟨e1, e2⟩ | ⟨is, e1, e2, e3, e4, e5⟩
      · rw [e1] at hv
        obtain rfl : v = .non := hv
        refine ⟨_, rfl, rfl, _, rfl, iteT (qn (fun h ls ns z _ => ?_) _ (Same.refl _))⟩
        obtain ⟨_, _, _, _, _, _, x1, _⟩ := z
        obtain ⟨k, hk, hne⟩ := e2 _ x1
        cases hk
        exact hne rfl
      · rw [e1] at hv
        obtain ⟨a, b, c, d, rfl⟩ := four_of (e3 4 rfl)
        obtain ⟨p, rfl, hp⟩ := hv
        have ha := e5 a (by simp)
        have hb := e5 b (by simp)
        have hc := e5 c (by simp)
        have hd := e5 d (by simp)
        have hlen := hB.len
        have same4 : ∀ {h : Nat} {ls : List Lf} {ns : List Nd}, TreeT es t h ls ns → es[a]? = some (nameE "tree") ∧ (∃ is : List Nat, es[c]? = some (rowE (nInt is))) ∧ ∃ is : List Nat, es[d]? = some (rowE (nInt is)) := fun {h ls ns} z => by
          obtain ⟨a', b', c', d', is', js', x1, x2, x3, x4, x5, x6, x7⟩ := z
          have e := row_inj (get2 x1 e2)
          have e : [(a' : Int), (b' : Int), (c' : Int), (d' : Int)] = [(a : Int), (b : Int), (c : Int), (d : Int)] := e
          obtain ⟨f1, e⟩ := List.cons.inj e
          obtain ⟨_, e⟩ := List.cons.inj e
          obtain ⟨f3, e⟩ := List.cons.inj e
          obtain ⟨f4, e⟩ := List.cons.inj e
          rw [Int.ofNat_inj.mp f1] at x2
          rw [Int.ofNat_inj.mp f3] at x4
          rw [Int.ofNat_inj.mp f4] at x6
          exact ⟨x2, ⟨_, x4⟩, ⟨_, x6⟩⟩
        refine ⟨_, rfl, rfl, _, rfl, iteF ?_⟩
        refine ⟨_, rfl, _, rfl, p, _, _, .int (a : Nat), rfl, rfl, .of hp, atI_nat (j := 0) rfl, B, es, "name", a, rfl, hB, ha, .inl rfl, ?_⟩
        have no1 : es[a]? ≠ some (nameE "tree") → Q .non H := fun h => qn (fun h' ls ns z _ => h (same4 z).1) _ (Same.refl _)
        rcases name_rd hB.wf a with ⟨n1, n2⟩ | ⟨z, n1, n2, n3⟩
        · rw [n1]
          refine ⟨rfl, _, rfl, ?_⟩
          rw [show decide (V.non = V.str "tree") = false from decide_eq_false fun z => nomatch z]
          exact iteT (no1 (n2 _))
        rw [n1]
        refine ⟨rfl, _, rfl, ?_⟩
        by_cases hz : z = "tree"
        · subst hz
          rw [decide_eq_true rfl]
          refine iteF ?_
          refine ⟨_, rfl, 2, rfl, ?_⟩
          dsimp only [tNoPart]
          refine slc_ref hp fun p2 H1 s1 hp2 => ?_
          have hp2 : H1 p2 = some (.tup [.int (c : Nat), .int (d : Nat)]) := hp2
          have hB1 := hB.same s1
          refine ⟨p2, rfl, ⟨_, .of hp2⟩, fun D nD => ?_⟩
          refine lcS (walk_tup (xs := [V.int (c : Nat), V.int (d : Nat)])) (fun G i acc => Paired (RowV G) acc (([rowN es c none, rowN es d none]).take i)) (by show 2 < sizeLine; decide) nD (fun _ _ _ _ t h => pairedM h fun _ _ r => r.tk t) (fun _ sm => .of (sm _ _ hp2)) .nil ?_ ?_
          · rintro i y G6 G7 Q' N' acc hi sm hR ⟨rfl, hy⟩ hq
            refine ⟨rfl, ?_⟩
            show tCall (spTw P w C) [] E0 (tCons (tVar 0) (tCons (tVar 6) (tCons (tC .non) tNil))) _ _ _
            match i, hi, hR, hy, hq with
            | 0, _, hR, hy, hq =>
              obtain rfl := Option.some.inj hy
              exact ⟨_, rfl, _, rfl, B, es, c, none, rfl, hB1.same sm, hc, fun v hv => hq v _ (Same.refl _) (L2.My.Paired.snoc hR hv)⟩
            | 1, _, hR, hy, hq =>
              obtain rfl := Option.some.inj hy
              exact ⟨_, rfl, _, rfl, B, es, d, none, rfl, hB1.same sm, hd, fun v hv => hq v _ (Same.refl _) (L2.My.Paired.snoc hR hv)⟩
            | i + 2, hi, _, _, _ => exact absurd hi (by show ¬ (i + 2 < 2); omega)
          · intro G2 acc s2 hD hR hl
            have hR : Paired (RowV G2) acc [rowN es c none, rowN es d none] := hR
            obtain ⟨v1, v2, rfl, r1, r2⟩ : ∃ v1 v2, acc = [v1, v2] ∧ RowV G2 v1 (rowN es c none) ∧ RowV G2 v2 (rowN es d none) := by
              cases hR with
              | cons r1 h => cases h with
                | cons r2 h => cases h; exact ⟨_, _, rfl, r1, r2⟩
            refine ⟨_, rfl, rIn_rows hD r1 r2 ⟨_, rfl, ?_⟩⟩
            have no : ∀ {u : Nat} {n : Int}, rowN es u none = none → es[u]? = some (rowE (nInt [])) → False := fun {u n} h1 h2 => by
              rcases row_rd hB.wf u none with ⟨_, f2⟩ | ⟨_, f1, _⟩
              · obtain ⟨k, hk, _⟩ := f2 _ h2
                cases hk
              · rw [h1] at f1; cases f1
            have no2 : ∀ {u : Nat}, rowN es u none = none → ¬ ∃ is : List Nat, es[u]? = some (rowE (nInt is)) := fun {u} h1 ⟨is, h2⟩ => by
              rcases row_rd hB.wf u none with ⟨_, f2⟩ | ⟨_, f1, _⟩
              · obtain ⟨k, hk, _⟩ := f2 _ h2
                cases hk
              · rw [h1] at f1; cases f1
            have s12 := s1.trans s2
            rcases row_rd hB.wf c none with ⟨c1, _⟩ | ⟨is, c1, c2, _, c4, c5⟩
            · rw [c1]
              exact iteT (qn (fun h' ls ns z _ => no2 c1 (same4 z).2.1) _ s12)
            rw [c1] at r1 ⊢
            rcases row_rd hB.wf d none with ⟨d1, _⟩ | ⟨js, d1, d2, _, d4, d5⟩
            · rw [d1]
              exact iteT (qn (fun h' ls ns z _ => no2 d1 (same4 z).2.2) _ s12)
            rw [d1] at r2 ⊢
            refine iteF ?_
            obtain ⟨pc, rfl, hpc⟩ := r1
            obtain ⟨pd, rfl, hpd⟩ := r2
            have hB2 := hB1.same s2
            refine ⟨_, rfl, D, _, _, .ref pc, rfl, rfl, .of hD, atI_nat (j := 0) rfl, pc, rfl, ⟨_, .of hpc⟩, fun D2 nD2 => ?_⟩
            refine lcS (walk_tup (xs := (nInt is).map V.int)) (fun G i acc => Paired (fun (j : Nat) v => LfRd es j G v) (is.take i) acc) (Nat.lt_of_le_of_lt (show ((nInt is).map V.int).length ≤ 400 by rw [List.length_map, List.length_map]; exact c4) (by decide)) nD2 (fun _ _ _ _ t h => pairedM h fun _ _ r => r.tk t) (fun _ sm => .of (sm _ _ hpc)) .nil ?_ ?_
            · rintro i y G6 G7 Q' N' acc hi sm hR ⟨rfl, hy⟩ hq
              rw [List.getElem?_map, List.getElem?_map, Option.map_map] at hy
              obtain ⟨j, hj, rfl⟩ := Option.map_eq_some_iff.mp hy
              refine ⟨rfl, ?_⟩
              show tCall (spTl P w C) [] E0 (tCons (tVar 0) (tCons (tVar 7) tNil)) _ _ _
              refine ⟨_, rfl, _, rfl, B, es, j, rfl, hB2.same sm, c5 j (List.mem_of_getElem? hj), fun H' v s3 hv => hq v H' s3 ?_⟩
              rw [take_snoc hj]
              exact L2.My.Paired.snoc (pairedM hR fun _ _ r => r.tk (.same s3)) hv
            intro G3 vs s3 hD2 hL3 hl3
            rw [List.length_map, List.length_map, List.take_length] at hL3
            have hB3 := hB2.same s3
            refine ⟨_, rfl, D, _, _, .ref pd, rfl, rfl, .of (s3 _ _ hD), atI_nat (j := 1) rfl, pd, rfl, ⟨_, .of (s3 _ _ hpd)⟩, fun D3 nD3 => ?_⟩
            refine lcS (walk_tup (xs := (nInt js).map V.int)) (fun G i acc => Paired (fun (j : Nat) v => NdRd es j G v) (js.take i) acc) (Nat.lt_of_le_of_lt (show ((nInt js).map V.int).length ≤ 400 by rw [List.length_map, List.length_map]; exact d4) (by decide)) nD3 (fun _ _ _ _ t h => pairedM h fun _ _ r => r.tk t) (fun _ sm => .of (sm _ _ (s3 _ _ hpd))) .nil ?_ ?_
            · rintro i y G6 G7 Q' N' acc hi sm hR ⟨rfl, hy⟩ hq
              rw [List.getElem?_map, List.getElem?_map, Option.map_map] at hy
              obtain ⟨j, hj, rfl⟩ := Option.map_eq_some_iff.mp hy
              refine ⟨rfl, ?_⟩
              show tCall (spTn P w C) [] E0 (tCons (tVar 0) (tCons (tVar 8) tNil)) _ _ _
              refine ⟨_, rfl, _, rfl, B, es, j, rfl, hB3.same sm, d5 j (List.mem_of_getElem? hj), fun H' v s4 hv => hq v H' s4 ?_⟩
              rw [take_snoc hj]
              exact L2.My.Paired.snoc (pairedM hR fun _ _ r => r.tk (.same s4)) hv
            intro G4 ws s4 hD3 hN4 hl4
            rw [List.length_map, List.length_map, List.take_length] at hN4
            have hB4 := hB3.same s4
            have s14 := (s12.trans s3).trans s4
            refine ⟨fun cls _ H' => cls = .ref BT ∧ Q .non H', fun cls d' σ' H' hh => ⟨true, by rw [hh.1]; exact N.te, fun _ a ha => hh.2, fun q => nomatch q⟩, ?_⟩
            refine ⟨_, rfl, _, rfl, p, _, _, .int (b : Nat), rfl, rfl, .of (s14 _ _ hp), atI_nat (j := 1) rfl, B, es, "number", b, rfl, hB4, hb, .inr rfl, ?_⟩
            refine ⟨_, rfl, .inl ⟨D2, vs, rfl, .of (s4 _ _ hD2), fun la nla => ⟨_, rfl, .inl ⟨D3, ws, rfl, .of ((same_upd nla) _ _ hD3), fun na nna => fun x dx nx ndx ne => ?_⟩⟩⟩⟩
            have u1 := same_upd (o := HO.tup vs) nla
            have u2 := same_upd (o := HO.tup ws) nna
            have hla := u2 _ _ (upd_same (H := G4) (a := la) (o := HO.tup vs))
            have hna : (upd (upd G4 la (.tup vs)) na (.tup ws)) na = some (.tup ws) := upd_same
            have sA := (s14.trans u1).trans u2
            have s45 := (s4.trans u1).trans u2
            have s46 := u1.trans u2
            generalize upd (upd G4 la (.tup vs)) na (.tup ws) = G5 at *
            have s6 : Same G5 (upd (upd G5 dx (.own x)) x (.ins CT dx [])) := (same_upd ndx).trans (same_upd (by rw [upd_ne (Ne.symm ne)]; exact nx))
            have hx6 : (upd (upd G5 dx (.own x)) x (.ins CT dx [])) x = some (.ins CT dx []) := upd_same
            generalize upd (upd G5 dx (.own x)) x (.ins CT dx []) = G6 at *
            have rd : TrRd es t G6 (partV es "number" b) la na := ⟨a, b, c, d, is, js, vs, ws, e2, n2, (num_rd hB.wf b).2, c2, d2, s6 _ _ hla, s6 _ _ hna, pairedM hL3 fun _ _ r => (r.tk (.same s45)).tk (.same s6), pairedM hN4 fun _ _ r => (r.tk (.same s46)).tk (.same s6), by rw [← Paired.len hL3]; exact c4, by rw [← Paired.len hN4]; exact d4⟩
            have nt : NoTup G6 x := fun xs h => by rw [hx6] at h; cases h
            obtain ⟨tl, tn⟩ := rd.thg nt
            refine ⟨x, x, dx, _, _, _, rfl, hx6, (num_rd hB.wf b).1.thg, tl, tn, fun hn H' bl hx' => ⟨rfl, ?_⟩, fun z hz H' d' sm nd ed => ⟨rfl, ?_⟩⟩
            · obtain ⟨h, ls, ns, eh, hL, hN, hT, dr⟩ := rd.good nt hn
              have tk : TK G6 H' := .bl bl fun p hp xs e => by rw [List.mem_singleton.mp hp, hx6] at e; cases e
              rw [eh] at hx'
              refine qy H' x dx la na h ls ns (fun p o e => ?_) (sA.free nx) ⟨hx', hL.tk tk, hN.tk tk⟩ hT dr
              refine bl p o (fun hm => ?_) (s6 _ _ (sA _ _ e))
              rw [List.mem_singleton.mp hm] at e
              have := sA _ _ e
              rw [nx] at this
              cases this
            · refine qn (fun h ls ns hT dr => ?_) _ ((sA.trans s6).trans sm)
              obtain ⟨eh, hL, hN⟩ := rd.at hT
              rw [eh, drawn_ok hL hN dr] at hz
              cases hz
        · rw [decide_eq_false (fun e => hz (V.str.inj e))]
          exact iteT (no1 fun h => hz (name_inj (get2 n2 h)))
end
end L2.Bk
end
section
set_option Elab.async false
set_option linter.all false
set_option maxRecDepth 100000
set_option maxHeartbeats 4000000
/-! The law's book. -/
namespace L2.Bk
open L2.My PySem PySem.Spec PyProof.Rows
abbrev sLbk : Stmt := top 58
/-- the book stands apart from the box -/
structure Sep (B : BP) (b g : Addr) : Prop where
  nb : b ∉ B.foot
  ng : g ∉ B.foot
theorem box_ft {L : List Addr} {H H' : Hp} {b g : Addr} (h : BoxAt H b g) (s : BL L H H') (hb : b ∉ L) (hg : g ∉ L) : BoxAt H' b g := by
  obtain ⟨ns, a1, r, m, al, gr, h1, h2, h3⟩ := h
  exact ⟨ns, a1, r, m, al, gr, s _ _ hb h1, s _ _ hg h2, h3⟩
theorem bk_box {P : Program} {w : World} {C : Addr} {H H' : Hp} {B : BP} {es : List Ent} {b g : Addr} (hB : BookAt P w H C B es) (hx : BoxAt H b g) (s : BL [b] H H') (sp : Sep B b g) : BookAt P w H' C B es :=
  hB.bl s (fun p hp hm => sp.nb (by rw [← List.mem_singleton.mp hm]; exact hp)) fun p hp xs e => by rw [List.mem_singleton.mp hp] at e; exact hx.nt xs e
/-- all are small -/
def Fit (L : Nat) (es : List Ent) : Prop := ∀ e ∈ es, Tiny L e
theorem Tiny.mono {L M : Nat} {e : Ent} (h : Tiny L e) (l : L ≤ M) : Tiny M e := ⟨fun is e => Nat.le_trans (h.1 is e) l, fun i e => by have := h.2 i e; omega⟩
theorem Fit.mono {L M : Nat} {es : List Ent} (h : Fit L es) (l : L ≤ M) : Fit M es := fun e he => (h e he).mono l
theorem Fit.nw {L M : Nat} {es es' : List Ent} (h : Fit L es) (n : Nw M es es') (l : M ≤ L) : Fit L es' := fun e he => (n e he).elim (h e) fun t => t.mono l
theorem Tiny.kind {L : Nat} {k : Str} {ks : List Key} (h1 : k ≠ "row") (h2 : k ≠ "number") : Tiny L (k, ks) := ⟨fun is e => absurd (congrArg (fun e : Ent => e.1) e) h1, fun i e => absurd (congrArg (fun e : Ent => e.1) e) h2⟩
def spBk (P : Program) (w : World) (C : Addr) : Sp := fun vs H Q _ => ∃ (b g : Addr), vs = [.ref b] ∧ BoxAt H b g ∧ ∀ H' B es, BL [b] H H' → BoxAt H' b g → BookAt P w H' C B es → (∀ p ∈ B.foot, H p = none) → 1 ≤ es.length → es.length ≤ 23 → Fit 6 es → Q (.ref B.b) H'
theorem BL.two {b : Addr} {L : List Addr} {H H1 H2 : Hp} (s : BL [b] H H1) (t : BL L H1 H2) (h : ∀ p ∈ L, H p = none) (hb : b ∉ L) : BL [b] H H2 := fun p o hp e => t p o (fun hm => by rw [h p hm] at e; cases e) (s p o hp e)
/-- what every put and fresh of the law leaves -/
theorem book_step {H H1 H2 : Hp} {B : BP} {b g : Addr} (hn : ∀ p ∈ B.foot, H p = none) (s : BL [b] H H1) (hB1 : BoxAt H1 b g) (sp : Sep B b g) (t : BL B.foot H1 H2) : BL [b] H H2 ∧ BoxAt H2 b g := ⟨s.two t hn sp.nb, box_ft hB1 t sp.nb sp.ng⟩
section
variable {P : Program} {w : World} {K : PySem.W.Frag} {mg : Str → Option Value} {base : Heap} {C C0 C1 : Addr}
abbrev nLbk : List Str := ["box", "book", "k", "kind"]
theorem scLbk : FnScope nLbk ["box"] (defScope sLbk) := ⟨rfl, rfl, rfl, by decide +kernel, rfl, by decide +kernel, by decide +kernel⟩
theorem ok_lbk {f fI : Addr} {fd fdI : FuncData} {k : Nat} (F : Fun K "_law_book" "_law_book" sLbk f fd) (T : Tx mg) (c : BkC K C) (gB : mg "Book" = some (.ref C)) (M : Mk K C fI) (GI : FnOk P w K mg base CX0 (k + 1) fI fdI ["self"] (spInit P w C)) (bI : Binds K fdI ["self"] [])
    (cD : Cal P w K mg base (k + 3) "_law_draw" ["box", "menu"] spDraw) (cF : MthX P w K mg base C (k + 4) "fresh" ["self"] (spFresh P w C)) (cS : MthX P w K mg base C (k + 1) "size" ["self"] (spSize C)) (cP : MthX P w K mg base C (k + 4) "put" ["self", "kind", "parts"] (spPut P w C C0 C1)) : FnOk P w K mg base CX0 (k + 5) f fd ["box"] (spBk P w C) := by
  refine F.ok scLbk (fun vs H Q E h => ?_) (fun cdv A outer s H vs Q E hr h => ?_)
  · obtain ⟨b, g, rfl, _⟩ := h
    rfl
  · obtain ⟨b, g, rfl, hX, q⟩ := h
    refine ⟨_, (pss_cons (ps_set (i := 1) scLbk.nd rfl (Or.inl rfl) (pe_make0 M GI (hr.mono (by omega)) (by rfl) gB bI .nil pass0)) (pss_cons (ps_for PassesOwn.never rfl (pi_range1 (by rfl) T.range_ (pa_cons (pe_op op_add pe_int (pe_c cD hr (by omega) (by rfl) (pa_cons (pv 0) (pa_cons pe_int pa_nil)))) pa_nil)) (pg_name (i := 2) scLbk.nd rfl (Or.inl rfl)) (pss_cons (ps_set (i := 3) scLbk.nd rfl (Or.inl rfl) (pe_c cD hr (by omega) (by rfl) (pa_cons (pv 0) (pa_cons pe_int pa_nil)))) (pss_one (ps_if (pt_cmpR op_lt (pv 3) pe_int (nomark _)) (pss_one (ps_expr (pe_meth0 (pv 1) c.cls cF.m cF.F (hr.mono (by omega)) cF.b .nil pass_no))) (pss_one (ps_if (pt_cmpR op_eq (pv 3) pe_int (nomark _)) (pss_one (ps_expr (pe_meth (pv 1) c.cls cP.m cP.F (hr.mono (by omega)) cP.b .nil pass_no (pa_cons pe_str (pa_cons (pe_tup (pa_cons (pe_ix ix_list (pe_lst (pa_cons pe_str (pa_cons pe_str (pa_cons pe_str (pa_cons pe_str (pa_cons pe_str (pa_cons pe_str pa_nil))))))) (pe_c cD hr (by omega) (by rfl) (pa_cons (pv 0) (pa_cons pe_int pa_nil))) (fun _ _ => rfl)) pa_nil)) pa_nil))))) (pss_one (ps_if (pt_or (pt_cmpR op_eq (pv 3) pe_int (nomark _)) (pw_or1 (pt_cmpR op_eq (pe_meth0 (pv 1) c.cls cS.m cS.F (hr.mono (by omega)) cS.b .nil pass_no) pe_int (nomark _)))) (pss_one (ps_expr (pe_meth (pv 1) c.cls cP.m cP.F (hr.mono (by omega)) cP.b .nil pass_no (pa_cons pe_str (pa_cons (pe_tup (pa_cons (pe_c cD hr (by omega) (by rfl) (pa_cons (pv 0) (pa_cons pe_int pa_nil))) pa_nil)) pa_nil))))) (pss_one (ps_expr (pe_meth (pv 1) c.cls cP.m cP.F (hr.mono (by omega)) cP.b .nil pass_no (pa_cons pe_str (pa_cons (pe_tup (pa_cons (pe_c cD hr (by omega) (by rfl) (pa_cons (pv 0) (pa_cons (pe_meth0 (pv 1) c.cls cS.m cS.F (hr.mono (by omega)) cS.b .nil pass_no) pa_nil))) pa_nil)) pa_nil))))))))))))) (pss_one (ps_ret (pv 1))))), ?_⟩
    intro x dx nx ndx ne
    have s0 : Same H (upd (upd H dx (.own x)) x (.ins C dx [])) := (same_upd ndx).trans (same_upd (by rw [upd_ne (Ne.symm ne)]; exact nx))
    refine ⟨x, dx, rfl, upd_same, fun H1 B eb ed bl1 hn1 hB1 => ⟨rfl, ?_⟩⟩
    have hn : ∀ p ∈ B.foot, H p = none := fun p hp => by
      unfold BP.foot at hp
      rcases List.mem_cons.mp hp with rfl | hp
      · rw [eb]; exact nx
      · exact s0.free (hn1 p (by simpa using hp))
    have s1 : Same H H1 := fun p o e => bl1 p o (fun hm => by rw [List.mem_singleton.mp hm, nx] at e; cases e) (s0 _ _ e)
    subst eb
    have hX1 := hX.same s1
    have sp : Sep B b g := ⟨fun hm => by have := hn b hm; exact hX.nb this rfl, fun hm => by have := hn g hm; exact hX.ng this rfl⟩
    dsimp only [gName]
    refine ⟨_, rfl, b, g, 20, rfl, hX1, by decide, by decide, fun H2 r bl2 hX2 r0 r1 => ⟨_, _, rfl, rfl, _, rfl, by omega, by omega, ?_⟩⟩
    refine for_it (walk_range (lo := 0)) (fun i σ G => ∃ (y2 y3 : Option V) (es : List Ent), σ = [some (.ref b), some (.ref B.b), y2, y3] ∧ BL [b] H G ∧ BoxAt G b g ∧ BookAt P w G C B es ∧ es.length ≤ i ∧ (1 ≤ i → 1 ≤ es.length) ∧ Fit 6 es) ⟨_, _, [], rfl, (BL.same s1).trans bl2, hX2, bk_box hB1 hX1 bl2 sp, Nat.zero_le _, fun h => absurd h (by decide), fun e he => by cases he⟩ (fun i σ G _ _ => trivial) ?_ ?_
    · rintro i y σ G G' hi ⟨y2, y3, es, rfl, bl, hX3, hB3, hl, hp, hf⟩ ⟨rfl, rfl⟩
      have hi24 : i < 24 := by omega
      dsimp only [gName]
      refine ⟨_, rfl, b, g, 6, rfl, hX3, by decide, by decide, fun G4 kd bl4 hX4 k0 k1 => ?_⟩
      have hB4 := bk_box hB3 hX3 bl4 sp
      have bl4' := bl.trans bl4
      dsimp only [gName]
      -- what a put leaves
      have fin : ∀ {G5 : Hp} {es5 : List Ent} {e : Ent} {j : Nat}, BL [b] H G5 → BoxAt G5 b g → BookAt P w G5 C B es5 → es <+: es5 → es5[j]? = some e → (e ∈ es → es5 = es) → es5.length ≤ es.length + 1 → Tiny 6 e → ∃ (y2 y3 : Option V) (es' : List Ent), [some (.ref b), some (.ref B.b), some (.int (0 + (i : Nat))), some (.int kd)] = [some (.ref b), some (.ref B.b), y2, y3] ∧ BL [b] H G5 ∧ BoxAt G5 b g ∧ BookAt P w G5 C B es' ∧ es'.length ≤ i + 1 ∧ (1 ≤ i + 1 → 1 ≤ es'.length) ∧ Fit 6 es' := fun {G5 es5 e j} a1 a2 a3 a4 a5 a6 a7 a8 => by
        have hj := (List.getElem?_eq_some_iff.mp a5).1
        exact ⟨_, _, es5, rfl, a1, a2, a3, by omega, fun _ => by omega, hf.nw (Nw.refl.put a4 a5 a6 a7 a8) (Nat.le_refl _)⟩
      refine ⟨_, rfl, _, _, rfl, rfl, _, rfl, ite2 (fun _ => ?_) (fun _ => ?_)⟩
      · refine ⟨_, rfl, B.b, B.dx, _, rfl, hB4.ins, rfl, B, es, rfl, hB4, by omega, fun G5 bl5 hB5 => ?_⟩
        obtain ⟨b5, hX5⟩ := book_step hn bl4' hX4 sp bl5
        refine ⟨_, _, es ++ [freshE es], rfl, b5, hX5, hB5, by rw [List.length_append]; show es.length + 1 ≤ i + 1; omega, fun _ => by rw [List.length_append]; show 1 ≤ es.length + 1; omega, fun e he => ?_⟩
        rcases List.mem_append.mp he with he | he
        · exact hf e he
        · rw [List.mem_singleton.mp he]; exact .kind (by decide +kernel) (by decide +kernel)
      · refine ⟨_, rfl, rfl, _, rfl, ite2 (fun _ => ?_) (fun _ => ?_)⟩
        · refine ⟨_, rfl, B.b, B.dx, _, rfl, hB4.ins, rfl, by show 6 ≤ sizeLine; decide, fun l nl => ?_⟩
          have u := same_upd (o := HO.lst [.str "tree", .str "", .str "a", .str "abc", .str "A", .str "a b"]) nl
          have hl4 : (upd G4 l (.lst [.str "tree", .str "", .str "a", .str "abc", .str "A", .str "a b"])) l = some (.lst ((["tree", "", "a", "abc", "A", "a b"] : List Str).map V.str)) := upd_same
          generalize upd G4 l (.lst [.str "tree", .str "", .str "a", .str "abc", .str "A", .str "a b"]) = G5 at *
          refine ⟨_, rfl, b, g, 6, rfl, hX4.same u, by decide, by decide, fun G6 m bl6 hX6 m0 m1 => ?_⟩
          obtain ⟨m, rfl⟩ : ∃ n : Nat, m = n := ⟨m.toNat, by omega⟩
          have nlb := hX4.nb nl
          have hm : m < (["tree", "", "a", "abc", "A", "a b"] : List Str).length := by show m < 6; omega
          have hz : (["tree", "", "a", "abc", "A", "a b"] : List Str)[m]? = some (["tree", "", "a", "abc", "A", "a b"] : List Str)[m] := List.getElem?_eq_getElem hm
          have hzm := List.mem_of_getElem? hz
          have hzn : nameV (.str (["tree", "", "a", "abc", "A", "a b"] : List Str)[m]) = true := (by decide +kernel : ∀ z ∈ (["tree", "", "a", "abc", "A", "a b"] : List Str), nameV (.str z) = true) _ hzm
          generalize (["tree", "", "a", "abc", "A", "a b"] : List Str)[m] = z at *
          refine ⟨l, _, _, .str z, rfl, rfl, .of (bl6 _ _ (by simpa using nlb) hl4), atI_nat (j := m) (by rw [List.getElem?_map, hz]; rfl), by show 1 ≤ sizeLine; decide, fun p np => ?_⟩
          have u2 := same_upd (o := HO.tup [.str z]) np
          have hB6 := (bk_box (hB4.same u) (hX4.same u) bl6 sp).same u2
          have bl6' := ((bl4'.trans (.same u)).trans bl6).trans (BL.same u2)
          dsimp only [tNil]
          show spPut P w C C0 C1 [.ref B.b, .str "name", .ref p] _ _ _
          refine put_lets (z := "name") hB6 (.lets (ks := [.inr z]) (by decide +kernel) upd_same (pt_name hzn) (by unfold fitsT; rw [if_pos rfl]; exact hzn)) (by omega) fun G7 es7 j bl7 hB7 pre7 hget7 hin7 hlen7 => ?_
          obtain ⟨b7, hX7⟩ := book_step hn bl6' (hX6.same u2) sp bl7
          exact fin b7 hX7 hB7 pre7 hget7 hin7 hlen7 .name
        · refine tt_use (t := tOr _ _) (fun c G => G = G4 ∧ (c = false → 0 < es.length)) ?_ (fun hk => ?_)
          · rintro c G ⟨rfl, hc⟩
            cases c with
            | true =>
              refine iteT ⟨_, rfl, B.b, B.dx, _, rfl, hB4.ins, rfl, _, rfl, b, g, 6, rfl, hX4, by decide, by decide, fun G6 m bl6 hX6 m0 m1 => ⟨by show 1 ≤ sizeLine; decide, fun p np => ?_⟩⟩
              have u2 := same_upd (o := HO.tup [.int m]) np
              have hB6 := (bk_box hB4 hX4 bl6 sp).same u2
              have bl6' := (bl4'.trans bl6).trans (BL.same u2)
              dsimp only [tNil]
              show spPut P w C C0 C1 [.ref B.b, .str "number", .ref p] _ _ _
              refine put_lets (z := "number") hB6 (.lets (ks := [.inl m]) (by decide +kernel) upd_same (pt_ints [m] (by simp)) (by unfold fitsT; rw [if_neg (by decide +kernel), if_pos rfl]; exact decide_eq_true ⟨m0, Int.lt_trans m1 (by decide)⟩)) (by omega) fun G7 es7 j bl7 hB7 pre7 hget7 hin7 hlen7 => ?_
              obtain ⟨b7, hX7⟩ := book_step hn bl6' (hX6.same u2) sp bl7
              exact fin b7 hX7 hB7 pre7 hget7 hin7 hlen7 (.numb (by omega))
            | false =>
              have hpos := hc rfl
              refine iteF ⟨_, rfl, B.b, B.dx, _, rfl, hB4.ins, rfl, _, rfl, _, rfl, B.b, B.dx, _, rfl, hB4.ins, rfl, B, _, es, rfl, hB4.kp, b, g, _, rfl, hX4, by omega, Nat.lt_of_le_of_lt (show ((es.length : Nat) : Int).natAbs ≤ 24 by omega) (by decide), fun G6 m bl6 hX6 m0 m1 => ⟨by show 1 ≤ sizeLine; decide, fun p np => ?_⟩⟩
              have u2 := same_upd (o := HO.tup [.int m]) np
              have hB6 := (bk_box hB4 hX4 bl6 sp).same u2
              have bl6' := (bl4'.trans bl6).trans (BL.same u2)
              have hfit : fitsT es.length "lock" (([.inl m] : List Key).map kV) = true := by
                unfold fitsT
                rw [if_neg (by decide +kernel), if_neg (by decide +kernel), if_neg (by decide +kernel)]
                show (decide ((("lock" : Str), 1) ∈ sizesK) && (belowV (es.length : Nat) (.int m) && true)) = true
                rw [Bool.and_true, Bool.and_eq_true]
                exact ⟨by decide +kernel, decide_eq_true ⟨m0, m1⟩⟩
              dsimp only [tNil]
              show spPut P w C C0 C1 [.ref B.b, .str "lock", .ref p] _ _ _
              refine put_lets (z := "lock") hB6 (.lets (ks := [.inl m]) (by decide +kernel) upd_same (pt_ints [m] (by simp)) hfit) (by omega) fun G7 es7 j bl7 hB7 pre7 hget7 hin7 hlen7 => ?_
              obtain ⟨b7, hX7⟩ := book_step hn bl6' (hX6.same u2) sp bl7
              exact fin b7 hX7 hB7 pre7 hget7 hin7 hlen7 (.kind (by decide +kernel) (by decide +kernel))
          · refine ⟨_, rfl, rfl, _, rfl, ite2 (fun _ => hk _ _ ⟨rfl, fun h => nomatch h⟩) (fun _ => ?_)⟩
            refine ⟨_, rfl, B.b, B.dx, _, rfl, hB4.ins, rfl, B, _, es, rfl, hB4.kp, rfl, _, rfl, hk _ _ ⟨rfl, fun h => ?_⟩⟩
            rw [dec_int] at h
            have := of_decide_eq_false h
            have := beq_eq_false_iff_ne.mp h
            omega
    · rintro σ G ⟨y2, y3, es, rfl, bl, hX3, hB3, hl, hp, hf⟩
      exact ⟨_, rfl, q _ _ es bl hX3 hB3 hn (hp (by omega)) (by omega) hf⟩
end
end L2.Bk
end
section
set_option Elab.async false
set_option linter.all false
set_option maxRecDepth 100000
set_option maxHeartbeats 4000000
/-! The law's locks, numbers, items. -/
namespace L2.Bk
open L2.My PySem PySem.Spec PyProof.Rows
abbrev sLlk : Stmt := top 59
abbrev sLnu : Stmt := top 60
/-- a comprehension whose calls touch the box, and add things -/
theorem lcBx {J : It} {n : Nat} {G : Hp → Prop} {Y : Nat → Hp → V → Hp → Prop} {b gg D : Addr} {H1 : Hp} {Qd : Hp → Prop} {σ : St} {g : TG} {tt : TT} {te : TE} {vs : List Nat} (w : Walk J n G Y) (R : Hp → Nat → List V → Prop) (hn : n < sizeLine) (hD : H1 D = none) (hB : BoxAt H1 b gg)
    (hR : ∀ H H' i acc, TK H H' → R H i acc → R H' i acc) (hG : ∀ H', BL [b] H1 H' → BoxAt H' b gg → G H') (h0 : R H1 0 [])
    (hs : ∀ i x H H' (Q' : VK) (N' : Hp → Prop) acc, i < n → BL [b] H1 H → BoxAt H b gg → R H i acc → Y i H x H' → (∀ v H4, BL [b] H H4 → BoxAt H4 b gg → R H4 (i + 1) (acc ++ [v]) → Q' v H4) →
      g x (wipe σ vs) H' fun σ2 H2 => wipe σ2 vs = wipe σ vs ∧ tt σ2 H2 fun c H3 => if c = true then te σ2 H3 Q' else N' H3)
    (hd : ∀ H acc, BL [b] H1 H → BoxAt H b gg → H D = some (.lst acc) → R H n acc → acc.length ≤ n → Qd H) : CompOut J g tt te vs σ D Qd H1 := by
  have nb := hB.nb hD
  have ng := hB.ng hD
  refine lc_it w (fun i H => BL [b] H1 H ∧ BoxAt H b gg ∧ ∃ acc, H D = some (.lst acc) ∧ R H i acc ∧ acc.length ≤ i) ⟨.same (same_upd hD), hB.same (same_upd hD), [], upd_same, hR _ _ _ _ (TK.same (same_upd hD)) h0, Nat.le_refl _⟩ (fun i H _ h => hG H h.1 h.2.1) ?_ (fun H ⟨h1, h2, acc, h3, h4, h5⟩ => hd H acc h1 h2 h3 h4 h5)
  rintro i x H H' hi ⟨bl, hb, acc, hacc, hR0, hlen⟩ y
  refine hs i x H H' _ _ acc hi bl hb hR0 y fun v H4 bl4 hb4 hR4 => ?_
  have hacc4 := bl4 _ _ (by simpa using nb) hacc
  exact ⟨acc, hacc4, by omega, L2.My.BL.put (bl.trans bl4) hD, hb4.put nb ng, acc ++ [v], upd_same, hR _ _ _ _ (TK.upd hacc4 fun xs e => nomatch e) hR4, by rw [List.length_append, List.length_singleton]; omega⟩
/-! ### other locks -/
def LkL (N : Int) (l l' : Lf) : Prop := (l = none ∧ l' = none) ∨ ∃ z k k', l = some (z, k) ∧ l' = some (z, k') ∧ 0 ≤ k' ∧ k' < N
def LkN (N : Int) (n n' : Nd) : Prop := n'.1 = n.1 ∧ n'.2.2 = n.2.2 ∧ 0 ≤ n'.2.1 ∧ n'.2.1 < N
theorem lk_wds {N : Int} {ls ls' : List Lf} (h : Paired (LkL N) ls ls') : (ls'.filterMap id).map (·.1) = (ls.filterMap id).map (·.1) := by
  induction h with
  | nil => rfl
  | cons r _ ih =>
    rcases r with ⟨rfl, rfl⟩ | ⟨z, k, k', rfl, rfl, _⟩
    · exact ih
    · show z :: _ = z :: _
      rw [ih]
theorem relock {N : Int} {h : Nat} {ls ls' : List Lf} {ns ns' : List Nd} (d : DrT h ls ns) (hl : Paired (LkL N) ls ls') (hn : Paired (LkN N) ns ns') (hN : N ≤ maxI) : DrT h ls' ns' ∧ ∀ k ∈ lockL ls' ns', 0 ≤ k ∧ k < N := by
  have gl : ∀ l' ∈ ls', ∀ z i, l' = some (z, i) → wordB z = true ∧ 0 ≤ i ∧ i < N := fun l' h' z i e => by
    obtain ⟨j, hj⟩ := List.getElem?_of_mem h'
    obtain ⟨l, h1, h2⟩ := L2.My.Paired.at hl hj
    rcases h2 with ⟨_, rfl⟩ | ⟨z', k, k', e1, e2, k0, k1⟩
    · cases e
    · rw [e2] at e
      cases e
      exact ⟨(d.gl l (List.mem_of_getElem? h1) _ _ e1).1, k0, k1⟩
  have gn : ∀ n' ∈ ns', RowOk h ls' n' ∧ 0 ≤ n'.2.1 ∧ n'.2.1 < N := fun n' h' => by
    obtain ⟨j, hj⟩ := List.getElem?_of_mem h'
    obtain ⟨n, h1, e1, e2, k0, k1⟩ := L2.My.Paired.at hn hj
    have r := d.gn n (List.mem_of_getElem? h1)
    refine ⟨⟨by rw [e1]; exact r.l1, by rw [e1]; exact r.lh, by rw [e1]; exact r.at', k0, by omega, by rw [e2]; exact r.pw, by rw [e2]; exact r.le, fun i hi => ?_⟩, k0, k1⟩
    rw [e2] at hi
    obtain ⟨a1, z, hz⟩ := r.as i hi
    rw [e1]
    refine ⟨a1, ?_⟩
    obtain ⟨l', h1, h2⟩ := Paired.at' hl hz
    rcases h2 with ⟨e, _⟩ | ⟨z', k, k', _, e2, _⟩
    · cases e
    · exact ⟨_, by rw [h1, e2]⟩
  have enI : ns'.map nI2 = ns.map nI2 := by
    have : ∀ {as bs : List Nd}, Paired (LkN N) as bs → bs.map nI2 = as.map nI2 := fun {as bs} p => by
      induction p with
      | nil => rfl
      | cons r _ ih =>
        rw [List.map_cons, List.map_cons, ih]
        unfold nI2
        rw [r.1]
    exact this hn
  refine ⟨⟨d.h8, by rw [← Paired.len hl]; exact d.ll, fun l' h' z i e => ?_, by rw [lk_wds hl]; exact d.nd, fun n' h' => (gn n' h').1, by rw [enI]; exact d.asc, by rw [← Paired.len hn]; exact d.nl⟩, fun k hk => ?_⟩
  · obtain ⟨a1, a2, a3⟩ := gl l' h' z i e
    exact ⟨a1, a2, by omega⟩
  · unfold lockL at hk
    rcases List.mem_append.mp hk with hk | hk
    · obtain ⟨p, hp, rfl⟩ := List.mem_map.mp hk
      obtain ⟨l, hl3, e⟩ := List.mem_filterMap.mp hp
      obtain rfl : l = some p := e
      exact (gl _ hl3 p.1 p.2 rfl).2
    · obtain ⟨n, hn, rfl⟩ := List.mem_map.mp hk
      exact (gn n hn).2
def spLk : Sp := fun vs H Q _ => ∃ (b g p la na : Addr) (h : Nat) (ls : List Lf) (ns : List Nd) (N : Nat), vs = [.ref b, .ref p, .int (N : Nat)] ∧ BoxAt H b g ∧ H p = some (.lst [.int (h : Nat), .ref la, .ref na]) ∧ p ≠ b ∧ LvsAt H la ls ∧ NdsAt H na ns ∧ DrT h ls ns ∧ 0 < N ∧ N ≤ 60000 ∧
  ∀ H' p' la' na' ls' ns', BL [b] H H' → BoxAt H' b g → H p' = none → H' p' = some (.lst [.int (h : Nat), .ref la', .ref na']) → LvsAt H' la' ls' → NdsAt H' na' ns' → DrT h ls' ns' → (∀ k ∈ lockL ls' ns', 0 ≤ k ∧ k < (N : Nat)) → Q (.ref p') H'
/-- number's term, there already or new -/
def spLn (P : Program) (w : World) (C : Addr) : Sp := fun vs H Q _ => ∃ (B : BP) (es : List Ent) (i : Int), vs = [.ref B.b, .int i] ∧ BookAt P w H C B es ∧ es.length < 30000 ∧ 0 ≤ i ∧ i < 10 ^ 12 ∧ ((∃ j : Nat, es[j]? = some (numbE i) ∧ ∀ H', Same H H' → Q (.int (j : Nat)) H') ∨ PutQ P w C H B es (numbE i) Q)
theorem put_found {P : Program} {w : World} {C C0 C1 : Addr} {B : BP} {H : Hp} {es : List Ent} {z : Str} {a : Addr} {ks : List Key} {i : Nat} {Q : VK} {E : XK} (hB : BookAt P w H C B es) (hd : Due H es.length (.str z) (.ref a) (.lets (z, ks))) (hl : es.length < 30000) (hi : es[i]? = some (z, ks)) (q : ∀ H', Same H H' → Q (.int (i : Nat)) H') : spPut P w C C0 C1 [.ref B.b, .str z, .ref a] H Q E := by
  refine ⟨B, es, _, _, _, rfl, hB, hd, hl, fun j hj H' s => ?_, fun hn H' s hB' => ?_⟩
  · rw [numE_some hB.wf.nd hi] at hj
    obtain rfl := Option.some.inj hj
    exact q H' s
  · rw [numE_some hB.wf.nd hi] at hn
    cases hn
theorem due_name {H : Hp} {n : Nat} {z : Str} {a : Addr} (h : H a = some (.tup [.str z])) (hz : nameV (.str z) = true) : Due H n (.str "name") (.ref a) (.lets (nameE z)) := .lets (ks := [.inr z]) (by decide +kernel) h (pt_name hz) (by unfold fitsT; rw [if_pos rfl]; exact hz)
theorem due_numb {H : Hp} {n : Nat} {i : Int} {a : Addr} (h : H a = some (.tup [.int i])) (h0 : 0 ≤ i) (h1 : i < 10 ^ 12) : Due H n (.str "number") (.ref a) (.lets (numbE i)) := .lets (ks := [.inl i]) (by decide +kernel) h (pt_ints [i] (by simp)) (by unfold fitsT; rw [if_neg (by decide +kernel), if_pos rfl]; exact decide_eq_true ⟨h0, h1⟩)
theorem due_row {H : Hp} {n : Nat} {is : List Int} {a : Addr} (h : H a = some (.tup (is.map V.int))) (hl : is.length ≤ 400) (hlt : ∀ i ∈ is, 0 ≤ i ∧ i < (n : Nat)) : Due H n (.str "row") (.ref a) (.lets (rowE is)) := by
  have ek : (is.map Sum.inl : List Key).map kV = is.map V.int := by rw [List.map_map]; rfl
  refine .lets (ks := is.map .inl) (by decide +kernel) (by rw [ek]; exact h) (by rw [ek]; exact pt_ints is (Nat.le_trans hl (by decide))) ?_
  unfold fitsT
  rw [if_neg (by decide +kernel), if_neg (by decide +kernel), if_pos rfl, ek, List.length_map, decide_eq_true hl, Bool.true_and, List.all_eq_true]
  intro x hx
  obtain ⟨i, hi2, rfl⟩ := List.mem_map.mp hx
  exact decide_eq_true (hlt i hi2)
section
variable {P : Program} {w : World} {K : PySem.W.Frag} {mg : Str → Option Value} {base : Heap} {C C0 C1 : Addr}
abbrev nLlk : List Str := ["box", "parts", "size", "leaves", "one", "node", "lock", "aside"]
theorem scLlk : FnScope nLlk ["box", "parts", "size"] (defScope sLlk) := ⟨rfl, rfl, rfl, by decide +kernel, rfl, by decide +kernel, by decide +kernel⟩
theorem ok_llk {f : Addr} {fd : FuncData} {k : Nat} (F : Fun K "_law_locks" "_law_locks" sLlk f fd) (T : Tx mg) (cD : Cal P w K mg base (k + 3) "_law_draw" ["box", "menu"] spDraw) : FnOk P w K mg base CX0 (k + 4) f fd ["box", "parts", "size"] spLk := by
  refine F.ok scLlk (fun vs H Q E h => ?_) (fun cdv A outer s H vs Q E hr h => ?_)
  · obtain ⟨b, g, p, la, na, h, ls, ns, N, rfl, _⟩ := h
    rfl
  · obtain ⟨b, g, p, la, na, h, ls, ns, N, rfl, hX, hp, npb, hL, hN, d, N0, N1, q⟩ := h
    refine ⟨_, (pss_cons (ps_set (i := 3) scLlk.nd rfl (Or.inl rfl) (pe_tupleOf (by rfl) T.tuple_ (pe_lc (own := [("one", 4)]) (g := gName 4) (te := tIf (tTest (tOp rIsN (tVar 4) (tC .non))) (tC .non) (tTup (tCons (tOp (rIxT K) (tVar 4) (tC (.int 0))) (tCons (tCall spDraw [] E0 (tCons (tVar 0) (tCons (tVar 2) tNil))) tNil)))) rfl scLlk.nd (pi_tup (pe_ix ix_list (pv 1) pe_int (fun _ _ => rfl))) (blkOk_by (N := nLlk) (sc := defScope sLlk) (by decide +kernel)) (fun _ _ _ _ _ => pg_name (i := 4) scLlk.nd rfl (Or.inl rfl)) (fun _ _ _ _ _ => pts_nil) (fun _ _ _ _ _ => (pe_ifExp (pt_cmpR op_isN (pv 4) pe_non (nomark _)) pe_non (pe_tup (pa_cons (pe_ix ix_tup (pv 4) pe_int (fun _ _ => rfl)) (pa_cons (pe_c cD hr (by omega) (by rfl) (pa_cons (pv 0) (pa_cons (pv 2) pa_nil))) pa_nil)))))))) (pss_one (ps_ret (pe_lst (pa_cons (pe_ix ix_list (pv 1) pe_int (fun _ _ => rfl)) (pa_cons (pv 3) (pa_cons (pe_tupleOf (by rfl) T.tuple_ (pe_lc (own := [("node", 5), ("lock", 6), ("aside", 7)]) (g := gTup K 3 (gCons (gName 5) (gCons (gName 6) (gCons (gName 7) gNil)))) (te := tTup (tCons (tVar 5) (tCons (tCall spDraw [] E0 (tCons (tVar 0) (tCons (tVar 2) tNil))) (tCons (tVar 7) tNil)))) rfl scLlk.nd (pi_tup (pe_ix ix_list (pv 1) pe_int (fun _ _ => rfl))) (blkOk_by (N := nLlk) (sc := defScope sLlk) (by decide +kernel)) (fun _ _ _ _ _ => pg_tup rfl (pgs_cons (pg_name (i := 5) scLlk.nd rfl (Or.inl rfl)) (pgs_cons (pg_name (i := 6) scLlk.nd rfl (Or.inl rfl)) (pgs_cons (pg_name (i := 7) scLlk.nd rfl (Or.inl rfl)) pgs_nil)))) (fun _ _ _ _ _ => pts_nil) (fun _ _ _ _ _ => (pe_tup (pa_cons (pv 5) (pa_cons (pe_c cD hr (by omega) (by rfl) (pa_cons (pv 0) (pa_cons (pv 2) pa_nil))) (pa_cons (pv 7) pa_nil))))))) pa_nil))))))), ?_⟩
    obtain ⟨lv, hla, hlp⟩ := hL
    obtain ⟨wv, hna, hnp⟩ := hN
    have npb' : p ∉ [b] := by simpa using npb
    have lab : la ∉ [b] := by simpa using hX.nt.ne hla
    have nab : na ∉ [b] := by simpa using hX.nt.ne hna
    have hlen : lv.length ≤ 256 := by rw [Paired.len hlp]; exact d.l256
    have hnlen : wv.length ≤ 1152 := by rw [Paired.len hnp]; exact d.nl
    have NN : ((N : Nat) : Int).natAbs < 2 ^ 200 := Nat.lt_of_le_of_lt (show ((N : Nat) : Int).natAbs ≤ 60000 by omega) (by decide)
    refine ⟨_, rfl, p, _, _, .ref la, rfl, rfl, .of hp, atI_nat (j := 1) rfl, la, rfl, ⟨_, .of hla⟩, fun D nD => ?_⟩
    refine lcBx (walk_tup (xs := lv)) (tt := tYes) (fun G i acc => ∃ ls' : List Lf, Paired (LfAt G) acc ls' ∧ Paired (LkL (N : Nat)) (ls.take i) ls') (Nat.lt_of_le_of_lt hlen (by decide)) nD hX (fun H1 H2 i acc t ⟨ls', r1, r2⟩ => ⟨ls', pairedM r1 fun _ _ r => r.tk t, r2⟩) (fun G s _ => .of (s _ _ lab hla)) ⟨[], .nil, .nil⟩ ?_ ?_
    · rintro i y G6 G7 Q' N' acc hi s hX6 ⟨ls', r1, r2⟩ ⟨rfl, hy⟩ hq
      obtain ⟨l, hl, hlf⟩ := Paired.at' hlp hy
      have tk6 := hX.tk s
      refine ⟨rfl, ?_⟩
      show tIf (tTest (tOp rIsN (tVar 4) (tC .non))) (tC .non) (tTup (tCons (tOp (rIxT K) (tVar 4) (tC (.int 0))) (tCons (tCall spDraw [] E0 (tCons (tVar 0) (tCons (tVar 2) tNil))) tNil))) _ _ _
      refine ⟨_, rfl, rfl, _, rfl, ?_⟩
      cases l with
      | none =>
        obtain rfl : y = .non := hlf
        refine iteT (hq _ _ .refl hX6 ⟨ls' ++ [none], L2.My.Paired.snoc r1 rfl, ?_⟩)
        rw [take_snoc hl]
        exact L2.My.Paired.snoc r2 (.inl ⟨rfl, rfl⟩)
      | some pr =>
        obtain ⟨z, k0⟩ := pr
        obtain ⟨a, rfl, ha⟩ := hlf.tk tk6
        refine iteF ⟨_, rfl, a, _, _, .str z, rfl, rfl, .of ha, atI_nat (j := 0) rfl, _, rfl, _, rfl, b, g, (N : Nat), rfl, hX6, by omega, NN, fun G8 r bl8 hX8 r0 r1' => ⟨by show 2 ≤ sizeLine; decide, fun t nt => ?_⟩⟩
        have tk8 := (hX6.tk bl8).trans (TK.same (same_upd (o := HO.tup [.str z, .int r]) nt))
        refine hq _ _ (bl8.trans (.same (same_upd nt))) (hX8.same (same_upd nt)) ⟨ls' ++ [some (z, r)], L2.My.Paired.snoc (pairedM r1 fun _ _ r => r.tk tk8) ⟨t, rfl, upd_same⟩, ?_⟩
        rw [take_snoc hl]
        exact L2.My.Paired.snoc r2 (.inr ⟨z, k0, r, rfl, rfl, r0, r1'⟩)
    rintro G1 vs1 bl1 hX1 hD ⟨ls', r1, r2⟩ hl1
    rw [Paired.len hlp, List.take_length] at r2
    refine .inl ⟨D, vs1, rfl, .of hD, fun la' nla => ?_⟩
    have u1 := same_upd (o := HO.tup vs1) nla
    have hla' : (upd G1 la' (.tup vs1)) la' = some (.tup vs1) := upd_same
    have tk1 := TK.same u1
    have bl2 := bl1.trans (L2.My.BL.same u1)
    have hX2 := hX1.same u1
    generalize upd G1 la' (.tup vs1) = G2 at *
    have tk02 := hX.tk bl2
    have hp2 := bl2 _ _ npb' hp
    have hna2 := bl2 _ _ nab hna
    dsimp only [gName]
    refine ⟨_, rfl, p, _, _, .int (h : Nat), rfl, rfl, .of hp2, atI_nat (j := 0) rfl, _, rfl, _, rfl, p, _, _, .ref na, rfl, rfl, .of hp2, atI_nat (j := 2) rfl, na, rfl, ⟨_, .of hna2⟩, fun D2 nD2 => ?_⟩
    refine lcBx (walk_tup (xs := wv)) (tt := tYes) (fun G i acc => ∃ ns' : List Nd, Paired (NdAt G) acc ns' ∧ Paired (LkN (N : Nat)) (ns.take i) ns') (Nat.lt_of_le_of_lt hnlen (by decide)) nD2 hX2 (fun H1 H2 i acc t ⟨ls', r1, r2⟩ => ⟨ls', pairedM r1 fun _ _ r => r.tk t, r2⟩) (fun G s _ => .of (s _ _ nab hna2)) ⟨[], .nil, .nil⟩ ?_ ?_
    · rintro i y G6 G7 Q' N' acc hi s hX6 ⟨ns', r1, r2⟩ ⟨rfl, hy⟩ hq
      obtain ⟨n, hn, hnd⟩ := Paired.at' hnp hy
      obtain ⟨a, nda, ca, rfl, g1, g2, g3⟩ := hnd.tk (tk02.trans (hX2.tk s))
      refine ⟨a, _, rfl, .of g1, rfl, _, _, rfl, _, _, rfl, _, _, rfl, rfl, rfl, ?_⟩
      show tTup (tCons (tVar 5) (tCons (tCall spDraw [] E0 (tCons (tVar 0) (tCons (tVar 2) tNil))) (tCons (tVar 7) tNil))) _ _ _
      refine ⟨_, rfl, _, rfl, _, rfl, b, g, (N : Nat), rfl, hX6, by omega, NN, fun G8 r bl8 hX8 r0 r1' => ⟨_, rfl, by show 3 ≤ sizeLine; decide, fun t nt => ?_⟩⟩
      have tk8 := (hX6.tk bl8).trans (TK.same (same_upd (o := HO.tup [.ref nda, .int r, .ref ca]) nt))
      refine hq _ _ (bl8.trans (.same (same_upd nt))) (hX8.same (same_upd nt)) ⟨ns' ++ [(n.1, (r, n.2.2))], L2.My.Paired.snoc (pairedM r1 fun _ _ r => r.tk tk8) ⟨t, nda, ca, rfl, upd_same, tk8 _ _ g2, tk8 _ _ g3⟩, ?_⟩
      rw [take_snoc hn]
      exact L2.My.Paired.snoc r2 ⟨rfl, rfl, r0, r1'⟩
    rintro G3 vs3 bl3 hX3 hD3 ⟨ns', r3, r4⟩ hl3
    rw [Paired.len hnp, List.take_length] at r4
    refine .inl ⟨D2, vs3, rfl, .of hD3, fun na' nna => ⟨by show 3 ≤ sizeLine; decide, fun p' np' => ?_⟩⟩
    have u3 := same_upd (o := HO.tup vs3) nna
    have u4 := same_upd (o := HO.lst [.int (h : Nat), .ref la', .ref na']) np'
    obtain ⟨d', hk⟩ := relock d r2 r4 (Int.le_trans (show ((N : Nat) : Int) ≤ 60000 by omega) (by decide))
    have blA := ((bl2.trans bl3).trans (L2.My.BL.same u3)).trans (L2.My.BL.same u4)
    have tk4 := ((hX2.tk bl3).trans (TK.same u3)).trans (TK.same u4)
    refine q _ p' la' na' ls' ns' blA ((hX3.same u3).same u4) ?_ upd_same ⟨vs1, tk4 _ _ hla', pairedM r1 fun _ _ r => (r.tk tk1).tk tk4⟩ ⟨vs3, u4 _ _ upd_same, pairedM r3 fun _ _ r => (r.tk (.same u3)).tk (.same u4)⟩ d' hk
    have n3 := u3.free np'
    exact L2.My.BL.nw (bl2.trans bl3) n3 (by simpa using hX3.nb n3)
theorem scLnu : FnScope ["book", "number"] ["book", "number"] (defScope sLnu) := ⟨rfl, rfl, rfl, by decide +kernel, rfl, by decide +kernel, by decide +kernel⟩
theorem ok_lnu {f : Addr} {fd : FuncData} {k : Nat} (F : Fun K "_law_number" "_law_number" sLnu f fd) (c : BkC K C) (cP : MthX P w K mg base C (k + 4) "put" ["self", "kind", "parts"] (spPut P w C C0 C1)) : FnOk P w K mg base CX0 (k + 5) f fd ["book", "number"] (spLn P w C) := by
  refine F.ok scLnu (fun vs H Q E h => ?_) (fun cdv A outer s H vs Q E hr h => ?_)
  · obtain ⟨B, es, z, rfl, _⟩ := h
    rfl
  · obtain ⟨B, es, i, rfl, hB, hl, i0, i1, q⟩ := h
    refine ⟨_, (pss_one (ps_ret (pe_meth (pv 0) c.cls cP.m cP.F (hr.mono (by omega)) cP.b .nil pass_no (pa_cons pe_str (pa_cons (pe_tup (pa_cons (pv 1) pa_nil)) pa_nil))))), ?_⟩
    refine ⟨_, rfl, B.b, B.dx, _, rfl, hB.ins, rfl, _, rfl, by show 1 ≤ sizeLine; decide, fun p np => ?_⟩
    have u := same_upd (o := HO.tup [.int i]) np
    rcases q with ⟨j, hj, q⟩ | q
    · exact put_found (hB.same u) (due_numb upd_same i0 i1) hl hj fun H' s => q H' (u.trans s)
    · exact put_lets (hB.same u) (due_numb upd_same i0 i1) hl (q.same u)
end
end L2.Bk
end
section
set_option Elab.async false
set_option linter.all false
set_option maxRecDepth 100000
set_option maxHeartbeats 4000000
/-! The law's items: all of them are there. -/
namespace L2.Bk
open L2.My PySem PySem.Spec PyProof.Rows
abbrev sLit : Stmt := top 61
section
variable {es : List Ent} {n : Int}
theorem row_in (wf : WF n es) {i : Nat} {is : List Int} (h : es[i]? = some (rowE is)) : is.length ≤ 400 ∧ ∀ k ∈ is, 0 ≤ k ∧ k < (es.length : Nat) := by
  have ok := wf.ok i _ h
  obtain ⟨o1, o2, o3⟩ := L2.Bk.row_ok ok rfl
  rw [fm_inl] at o2 o3
  have := (List.getElem?_eq_some_iff.mp h).1
  exact ⟨o2, fun k hk => by have := o3 k hk; omega⟩
theorem num_in (wf : WF n es) {i : Nat} {j : Int} (h : es[i]? = some (numbE j)) : 0 ≤ j ∧ j < 10 ^ 12 := by
  have ok := wf.ok i _ h
  generalize e : numbE j = en at ok
  cases ok with
  | name x h => exact (name_numb e.symm).elim
  | num k h0 h1 => rw [numb_inj e]; exact ⟨h0, h1⟩
  | fresh k h0 => exact absurd (congrArg (fun e : Ent => e.1) e) (by show ¬ (("number" : Str) = "fresh"); decide +kernel)
  | row is hl h => exact (numb_row e).elim
  | parts k is hk h => exact absurd (congrArg (fun e : Ent => e.1) e).symm (sz_ne _ hk).2.2
theorem name_in (wf : WF n es) {i : Nat} {z : Str} (h : es[i]? = some (nameE z)) : nameV (.str z) = true := by
  have ok := wf.ok i _ h
  generalize e : nameE z = en at ok
  cases ok with
  | name x h => rw [name_inj e]; exact h
  | num k h0 h1 => exact (name_numb e).elim
  | fresh k h0 => exact absurd (congrArg (fun e : Ent => e.1) e) (by show ¬ (("name" : Str) = "fresh"); decide +kernel)
  | row is hl h => exact (name_row e).elim
  | parts k is hk h => exact absurd (congrArg (fun e : Ent => e.1) e).symm (sz_ne _ hk).2.1
end
/-- numbers as values -/
abbrev nV (is : List Nat) : List V := is.map fun (i : Nat) => V.int (i : Nat)
theorem nV_int (is : List Nat) : (nInt is).map V.int = nV is := by rw [List.map_map]; rfl
def spLi (P : Program) (w : World) (C : Addr) : Sp := fun vs H Q _ => ∃ (B : BP) (es : List Ent) (p la na : Addr) (h t : Nat) (ls : List Lf) (ns : List Nd), vs = [.ref B.b, .ref p] ∧ BookAt P w H C B es ∧ es.length < 30000 ∧ H p = some (.lst [.int (h : Nat), .ref la, .ref na]) ∧ LvsAt H la ls ∧ NdsAt H na ns ∧ TreeT es t h ls ns ∧
  ∀ H' l a b c d, Same H H' → H' l = some (.lst (nV [a, b, c, d])) → es[t]? = some (rowE (nInt [a, b, c, d])) → Q (.ref l) H'
section
variable {P : Program} {w : World} {K : PySem.W.Frag} {mg : Str → Option Value} {base : Heap} {C C0 C1 : Addr}
abbrev nLit : List Str := ["book", "parts", "leaves", "nodes", "node", "lock", "aside", "some", "head", "one", "leaf"]
theorem scLit : FnScope nLit ["book", "parts"] (defScope sLit) := ⟨rfl, rfl, rfl, by decide +kernel, rfl, by decide +kernel, by decide +kernel⟩
theorem ok_lit {f : Addr} {fd : FuncData} {k : Nat} (F : Fun K "_law_items" "_law_items" sLit f fd) (T : Tx mg) (c : BkC K C) (cP : MthX P w K mg base C (k + 4) "put" ["self", "kind", "parts"] (spPut P w C C0 C1)) (cU : Cal P w K mg base (k + 5) "_law_number" ["book", "number"] (spLn P w C)) : FnOk P w K mg base CX0 (k + 6) f fd ["book", "parts"] (spLi P w C) := by
  refine F.ok scLit (fun vs H Q E h => ?_) (fun cdv A outer s H vs Q E hr h => ?_)
  · obtain ⟨B, es, p, la, na, h, t, ls, ns, rfl, _⟩ := h
    rfl
  · obtain ⟨B, es, p, la, na, h, t, ls, ns, rfl, hB, hl, hp, hL, hN, hT, q⟩ := h
    refine ⟨_, (pss_cons (ps_setLc (own := [("one", 9)]) (i := 2) (g := gName 9) (te := tIf (tTest (tOp rIsN (tVar 9) (tC .non))) (tCall (spLn P w C) [] E0 (tCons (tVar 0) (tCons (tC (.int 0)) tNil))) (tMeth C "put" (spPut P w C C0 C1) [] E0 (tVar 0) (tCons (tC (.str "row")) (tCons (tTup (tCons (tMeth C "put" (spPut P w C C0 C1) [] E0 (tVar 0) (tCons (tC (.str "name")) (tCons (tTup (tCons (tOp (rIxT K) (tVar 9) (tC (.int 0))) tNil)) tNil))) (tCons (tOp (rIxT K) (tVar 9) (tC (.int 1))) tNil))) tNil)))) rfl scLit.nd rfl rfl (sw_true rfl rfl rfl (by decide +kernel)) (pi_tup (pe_ix ix_list (pv 1) pe_int (fun _ _ => rfl))) (blkOk_by (N := nLit) (sc := defScope sLit) (by decide +kernel)) (fun _ _ _ _ _ => pg_name (i := 9) scLit.nd rfl (Or.inl rfl)) (fun _ _ _ _ _ => pts_nil) (fun _ _ _ _ _ => (pe_ifExp (pt_cmpR op_isN (pv 9) pe_non (nomark _)) (pe_c cU hr (by omega) (by rfl) (pa_cons (pv 0) (pa_cons pe_int pa_nil))) (pe_meth (pv 0) c.cls cP.m cP.F (hr.mono (by omega)) cP.b .nil pass_no (pa_cons pe_str (pa_cons (pe_tup (pa_cons (pe_meth (pv 0) c.cls cP.m cP.F (hr.mono (by omega)) cP.b .nil pass_no (pa_cons pe_str (pa_cons (pe_tup (pa_cons (pe_ix ix_tup (pv 9) pe_int (fun _ _ => rfl)) pa_nil)) pa_nil))) (pa_cons (pe_ix ix_tup (pv 9) pe_int (fun _ _ => rfl)) pa_nil))) pa_nil)))))) (pss_cons (ps_set (i := 3) scLit.nd rfl (Or.inl rfl) (pe_lst pa_nil)) (pss_cons (ps_for PassesOwn.never rfl (pi_tup (pe_ix ix_list (pv 1) pe_int (fun _ _ => rfl))) (pg_tup rfl (pgs_cons (pg_name (i := 4) scLit.nd rfl (Or.inl rfl)) (pgs_cons (pg_name (i := 5) scLit.nd rfl (Or.inl rfl)) (pgs_cons (pg_name (i := 6) scLit.nd rfl (Or.inl rfl)) pgs_nil)))) (pss_cons (ps_set (i := 7) scLit.nd rfl (Or.inl rfl) (pe_meth (pv 0) c.cls cP.m cP.F (hr.mono (by omega)) cP.b .nil pass_no (pa_cons pe_str (pa_cons (pe_tupleOf (by rfl) T.tuple_ (pe_lc (own := [("leaf", 10)]) (g := gName 10) (te := tCall (spLn P w C) [] E0 (tCons (tVar 0) (tCons (tVar 10) tNil))) rfl scLit.nd (pi_tup (pv 6)) (blkOk_by (N := nLit) (sc := defScope sLit) (by decide +kernel)) (fun _ _ _ _ _ => pg_name (i := 10) scLit.nd rfl (Or.inl rfl)) (fun _ _ _ _ _ => pts_nil) (fun _ _ _ _ _ => (pe_c cU hr (by omega) (by rfl) (pa_cons (pv 0) (pa_cons (pv 10) pa_nil)))))) pa_nil)))) (pss_one (ps_expr (pe_bm PySem.F.plainAttrs_list PySem.F.slot_list_append PySem.F.type_list_append mt_append (pv 3) (pa_cons (pe_meth (pv 0) c.cls cP.m cP.F (hr.mono (by omega)) cP.b .nil pass_no (pa_cons pe_str (pa_cons (pe_tup (pa_cons (pe_c cU hr (by omega) (by rfl) (pa_cons (pv 0) (pa_cons (pe_ix ix_tup (pv 4) pe_int (fun _ _ => rfl)) pa_nil))) (pa_cons (pe_c cU hr (by omega) (by rfl) (pa_cons (pv 0) (pa_cons (pe_ix ix_tup (pv 4) pe_int (fun _ _ => rfl)) pa_nil))) (pa_cons (pv 5) (pa_cons (pv 7) pa_nil))))) pa_nil))) pa_nil)))))) (pss_cons (ps_set (i := 8) scLit.nd rfl (Or.inl rfl) (pe_meth (pv 0) c.cls cP.m cP.F (hr.mono (by omega)) cP.b .nil pass_no (pa_cons pe_str (pa_cons (pe_tup (pa_cons pe_str pa_nil)) pa_nil)))) (pss_one (ps_ret (pe_lst (pa_cons (pv 8) (pa_cons (pe_c cU hr (by omega) (by rfl) (pa_cons (pv 0) (pa_cons (pe_ix ix_list (pv 1) pe_int (fun _ _ => rfl)) pa_nil))) (pa_cons (pe_meth (pv 0) c.cls cP.m cP.F (hr.mono (by omega)) cP.b .nil pass_no (pa_cons pe_str (pa_cons (pe_tupleOf (by rfl) T.tuple_ (pv 2)) pa_nil))) (pa_cons (pe_meth (pv 0) c.cls cP.m cP.F (hr.mono (by omega)) cP.b .nil pass_no (pa_cons pe_str (pa_cons (pe_tupleOf (by rfl) T.tuple_ (pv 3)) pa_nil))) pa_nil))))))))))), ?_⟩
    obtain ⟨lv, hla, hlp⟩ := hL
    obtain ⟨wv, hna, hnp⟩ := hN
    obtain ⟨ta, tb, tc, td, is, js, x1, x2, x3, x4, x5, x6, x7⟩ := hT
    have wf := hB.wf
    have hlv : lv.length = is.length := by rw [Paired.len hlp, ← Paired.len x5]
    have hwv : wv.length = js.length := by rw [Paired.len hnp, ← Paired.len x7]
    have i400 : is.length ≤ 400 := by have := (row_in wf x4).1; rw [List.length_map] at this; exact this
    have j400 : js.length ≤ 400 := by have := (row_in wf x6).1; rw [List.length_map] at this; exact this
    refine ⟨_, rfl, p, _, _, .ref la, rfl, rfl, .of hp, atI_nat (j := 1) rfl, la, rfl, ⟨_, .of hla⟩, fun D nD => ?_⟩
    refine lcS (walk_tup (xs := lv)) (tt := tYes) (fun G i acc => acc = nV (is.take i)) (Nat.lt_of_le_of_lt (show lv.length ≤ 400 by omega) (by decide)) nD (fun _ _ _ _ _ h => h) (fun _ sm => .of (sm _ _ hla)) rfl ?_ ?_
    · rintro i y G6 G7 Q' N' acc hi sm rfl ⟨rfl, hy⟩ hq
      obtain ⟨l, hl3, hlf⟩ := Paired.at' hlp hy
      obtain ⟨j, hj, hLt⟩ := L2.My.Paired.at x5 hl3
      have hq : ∀ H4, Same G7 H4 → Q' (.int (j : Nat)) H4 := fun H4 s4 => hq _ H4 s4 (by rw [take_snoc hj]; unfold nV; rw [List.map_append]; rfl)
      have hB7 := hB.same sm
      refine ⟨rfl, ?_⟩
      show tIf (tTest (tOp rIsN (tVar 9) (tC .non))) (tCall (spLn P w C) [] E0 (tCons (tVar 0) (tCons (tC (.int 0)) tNil))) (tMeth C "put" (spPut P w C C0 C1) [] E0 (tVar 0) (tCons (tC (.str "row")) (tCons (tTup (tCons (tMeth C "put" (spPut P w C C0 C1) [] E0 (tVar 0) (tCons (tC (.str "name")) (tCons (tTup (tCons (tOp (rIxT K) (tVar 9) (tC (.int 0))) tNil)) tNil))) (tCons (tOp (rIxT K) (tVar 9) (tC (.int 1))) tNil))) tNil))) _ _ _
      refine ⟨_, rfl, rfl, _, rfl, ?_⟩
      cases l with
      | none =>
        obtain rfl : y = .non := hlf
        exact iteT ⟨_, rfl, B, es, 0, rfl, hB7, hl, by decide, by decide, .inl ⟨j, hLt, hq⟩⟩
      | some pr =>
        obtain ⟨z, k0⟩ := pr
        obtain ⟨a, rfl, ha⟩ := hlf
        obtain ⟨u, r1, r2⟩ := hLt
        have ha7 := sm _ _ ha
        refine iteF ⟨_, rfl, B.b, B.dx, _, rfl, hB7.ins, rfl, _, rfl, B.b, B.dx, _, rfl, hB7.ins, rfl, _, rfl, a, _, _, .str z, rfl, rfl, .of ha7, atI_nat (j := 0) rfl, by show 1 ≤ sizeLine; decide, fun p1 np1 => ?_⟩
        have u1 := same_upd (o := HO.tup [.str z]) np1
        dsimp only [tNil]
        show spPut P w C C0 C1 [.ref B.b, .str "name", .ref p1] _ _ _
        refine put_found (z := "name") (hB7.same u1) (due_name upd_same (name_in wf r2)) hl r2 fun H8 s8 => ?_
        have s18 := u1.trans s8
        refine ⟨_, rfl, a, _, _, .int k0, rfl, rfl, .of (s18 _ _ ha7), atI_nat (j := 1) rfl, by show 2 ≤ sizeLine; decide, fun p2 np2 => ?_⟩
        have u2 := same_upd (o := HO.tup [.int (u : Nat), .int k0]) np2
        show spPut P w C C0 C1 [.ref B.b, .str "row", .ref p2] _ _ _
        exact put_found (z := "row") ((hB7.same s18).same u2) (due_row (is := [(u : Nat), k0]) upd_same (by show 2 ≤ 400; decide) (row_in wf r1).2) hl r1 fun H9 s9 => hq H9 ((s18.trans u2).trans s9)
    rintro G1 acc s1 hD rfl hl1
    rw [hlv, List.take_length] at hD
    dsimp only [gName]
    refine ⟨Nat.zero_le _, fun Nv nNv => ?_⟩
    have u2 := same_upd (o := HO.lst []) nNv
    have hNv : (upd G1 Nv (.lst [])) Nv = some (.lst []) := upd_same
    have hB1 := hB.same s1
    have nNvf : Nv ∉ B.foot := fun hm => foot_there hB1 hm nNv
    have s02 := s1.trans u2
    have hD2 := u2 _ _ hD
    have hB2 := hB1.same u2
    have nNvH := s1.free nNv
    generalize upd G1 Nv (.lst []) = G2 at *
    have nDN : D ≠ Nv := fun e => by rw [e, nNv] at hD; cases hD
    have hp2 := s02 _ _ hp
    have hna2 := s02 _ _ hna
    have nap : p ≠ Nv := fun e => by rw [e, nNvH] at hp; cases hp
    have nan : na ≠ Nv := fun e => by rw [e, nNvH] at hna; cases hna
    dsimp only [gName]
    refine seq_use (t := tFor _ _ _) (fun σ G => ∃ (y4 y5 y6 y7 : Option V), σ = [some (.ref B.b), some (.ref p), some (.ref D), some (.ref Nv), y4, y5, y6, y7, none, none, none] ∧ BL [Nv] G2 G ∧ BookAt P w G C B es ∧ G Nv = some (.lst (nV js))) ?_ (fun hrest => ?_)
    · rintro σ G ⟨y4, y5, y6, y7, rfl, bl, hB3, hNv3⟩
      have s03 : Same H G := fun p0 o e => bl p0 o (fun hm => by rw [List.mem_singleton.mp hm, nNvH] at e; cases e) (s02 _ _ e)
      have hD3 := bl _ _ (by simpa using nDN) hD2
      refine ⟨_, rfl, B.b, B.dx, _, rfl, hB3.ins, rfl, by show 1 ≤ sizeLine; decide, fun p1 np1 => ?_⟩
      have u1 := same_upd (o := HO.tup [.str "tree"]) np1
      dsimp only [tNil]
      show spPut P w C C0 C1 [.ref B.b, .str "name", .ref p1] _ _ _
      refine put_found (z := "name") (hB3.same u1) (due_name upd_same (by decide +kernel)) hl x2 fun G4 s4 => ?_
      have s14 := u1.trans s4
      dsimp only [gName]
      refine ⟨_, rfl, _, rfl, _, rfl, p, _, _, .int (h : Nat), rfl, rfl, .of (s14 _ _ (s03 _ _ hp)), atI_nat (j := 0) rfl, B, es, _, rfl, hB3.same s14, hl, (num_in wf x3).1, (num_in wf x3).2, .inl ⟨tb, x3, fun G5 s5 => ?_⟩⟩
      have s15 := s14.trans s5
      have hB5 := hB3.same s15
      refine ⟨_, rfl, B.b, B.dx, _, rfl, hB5.ins, rfl, _, rfl, .inl ⟨D, _, rfl, .of (s15 _ _ hD3), fun p2 np2 => ?_⟩⟩
      have u6 := same_upd (o := HO.tup (nV is)) np2
      dsimp only [tNil]
      show spPut P w C C0 C1 [.ref B.b, .str "row", .ref p2] _ _ _
      refine put_found (z := "row") (hB5.same u6) (due_row (is := nInt is) (by rw [nV_int]; exact upd_same) (row_in wf x4).1 (row_in wf x4).2) hl x4 fun G7 s7 => ?_
      have s17 := (s15.trans u6).trans s7
      have hB7 := hB3.same s17
      refine ⟨_, rfl, B.b, B.dx, _, rfl, hB7.ins, rfl, _, rfl, .inl ⟨Nv, _, rfl, .of (s17 _ _ hNv3), fun p3 np3 => ?_⟩⟩
      have u8 := same_upd (o := HO.tup (nV js)) np3
      dsimp only [tNil]
      show spPut P w C C0 C1 [.ref B.b, .str "row", .ref p3] _ _ _
      refine put_found (z := "row") (hB7.same u8) (due_row (is := nInt js) (by rw [nV_int]; exact upd_same) (row_in wf x6).1 (row_in wf x6).2) hl x6 fun G9 s9 => ⟨by show 4 ≤ sizeLine; decide, fun l nl => ?_⟩
      exact q _ l ta tb tc td (((s03.trans s17).trans (u8.trans s9)).trans (same_upd nl)) upd_same x1
    · refine ⟨_, rfl, p, _, _, .ref na, rfl, rfl, .of hp2, atI_nat (j := 2) rfl, na, rfl, ⟨_, .of hna2⟩, ?_⟩
      refine for_it (walk_tup (xs := wv)) (fun i σ G => ∃ (y4 y5 y6 y7 : Option V), σ = [some (.ref B.b), some (.ref p), some (.ref D), some (.ref Nv), y4, y5, y6, y7, none, none, none] ∧ BL [Nv] G2 G ∧ BookAt P w G C B es ∧ G Nv = some (.lst (nV (js.take i)))) ⟨_, _, _, _, rfl, .refl, hB2, hNv⟩ (fun i σ G _ hG => by
        obtain ⟨_, _, _, _, _, b, _⟩ := hG
        exact .of (b _ _ (by simpa using nan) hna2)) ?_ ?_
      · rintro i y σ G3 G3' hi ⟨y4, y5, y6, y7, rfl, bl, hB3, hNv3⟩ ⟨rfl, hy⟩
        obtain ⟨n, hn, hnd⟩ := Paired.at' hnp hy
        obtain ⟨j, hj, hNt⟩ := L2.My.Paired.at x7 hn
        have tk3 : TK H G3' := (TK.same s02).trans (.bl bl fun p0 hp0 xs e => by rw [List.mem_singleton.mp hp0, hNv] at e; cases e)
        obtain ⟨a, nda, ca, rfl, g1, g2, g3⟩ := hnd.tk tk3
        obtain ⟨ua, ub, uc, ks, z1, z2, z3, z4, z5⟩ := hNt
        have k400 : ks.length ≤ 400 := by have := (row_in wf z4).1; rw [List.length_map] at this; exact this
        have hkl : (nN n.2.2).length = ks.length := by rw [nN_len, ← Paired.len z5]
        refine ⟨a, _, rfl, .of g1, rfl, _, _, rfl, _, _, rfl, _, _, rfl, rfl, ?_⟩
        refine ⟨_, rfl, B.b, B.dx, _, rfl, hB3.ins, rfl, _, rfl, ca, rfl, ⟨_, .of g3⟩, fun D5 nD5 => ?_⟩
        refine lcS (walk_tup (xs := nN n.2.2)) (tt := tYes) (fun G i acc => acc = nV (ks.take i)) (Nat.lt_of_le_of_lt (show (nN n.2.2).length ≤ 400 by omega) (by decide)) nD5 (fun _ _ _ _ _ h => h) (fun _ sm => .of (sm _ _ g3)) rfl ?_ ?_
        · rintro i' y G6 G7 Q' N' acc hi' sm rfl ⟨rfl, hy⟩ hq
          obtain ⟨cc, hcc, rfl⟩ := nN_at hy
          obtain ⟨kj, hkj, r⟩ := L2.My.Paired.at z5 hcc
          refine ⟨rfl, ?_⟩
          show tCall (spLn P w C) [] E0 (tCons (tVar 0) (tCons (tVar 10) tNil)) _ _ _
          exact ⟨_, rfl, _, rfl, B, es, _, rfl, hB3.same sm, hl, (num_in wf r).1, (num_in wf r).2, .inl ⟨kj, r, fun H4 s4 => hq _ H4 s4 (by rw [take_snoc hkj]; unfold nV; rw [List.map_append]; rfl)⟩⟩
        rintro G5 acc s5 hD5 rfl hl5
        rw [hkl, List.take_length] at hD5
        refine .inl ⟨D5, _, rfl, .of hD5, fun p2 np2 => ?_⟩
        have u6 := same_upd (o := HO.tup (nV ks)) np2
        have hB5 := hB3.same s5
        dsimp only [tNil]
        show spPut P w C C0 C1 [.ref B.b, .str "row", .ref p2] _ _ _
        refine put_found (z := "row") (hB5.same u6) (due_row (is := nInt ks) (by rw [nV_int]; exact upd_same) (row_in wf z4).1 (row_in wf z4).2) hl z4 fun G7 s7 => ?_
        have s57 := (s5.trans u6).trans s7
        have hB7 := hB3.same s57
        dsimp only [gName]
        refine ⟨_, rfl, .inl ⟨rfl, _, SqL.of (s57 _ _ hNv3)⟩, _, rfl, B.b, B.dx, _, rfl, hB7.ins, rfl, _, rfl, _, rfl, nda, _, _, .int (n.1.1 : Nat), rfl, rfl, .of (s57 _ _ g2), atI_nat (j := 0) rfl, B, es, _, rfl, hB7, hl, (num_in wf z2).1, (num_in wf z2).2, .inl ⟨ua, z2, fun G8 s8 => ?_⟩⟩
        have s58 := s57.trans s8
        refine ⟨_, rfl, _, rfl, nda, _, _, .int (n.1.2 : Nat), rfl, rfl, .of (s58 _ _ g2), atI_nat (j := 1) rfl, B, es, _, rfl, hB3.same s58, hl, (num_in wf z3).1, (num_in wf z3).2, .inl ⟨ub, z3, fun G9 s9 => ?_⟩⟩
        have s59 := s58.trans s9
        refine ⟨_, rfl, _, rfl, by show 4 ≤ sizeLine; decide, fun p4 np4 => ?_⟩
        have u10 := same_upd (o := HO.tup [.int (ua : Nat), .int (ub : Nat), .int n.2.1, .int (uc : Nat)]) np4
        dsimp only [tNil]
        show spPut P w C C0 C1 [.ref B.b, .str "row", .ref p4] _ _ _
        refine put_found (z := "row") ((hB3.same s59).same u10) (due_row (is := [(ua : Nat), (ub : Nat), n.2.1, (uc : Nat)]) upd_same (by show 4 ≤ 400; decide) (row_in wf z1).2) hl z1 fun G11 s11 => ?_
        have sA := (s59.trans u10).trans s11
        have hNvA := sA _ _ hNv3
        refine ⟨Nv, _, .int (j : Nat), rfl, rfl, hNvA, Nat.lt_of_le_of_lt (show (nV (js.take i)).length ≤ 400 by rw [List.length_map, List.length_take]; omega) (by decide), ?_⟩
        refine ⟨_, _, _, _, rfl, (bl.trans (BL.same sA)).trans (.upd (by simp)), (hB3.same sA).bl (L := [Nv]) (.upd (by simp)) (fun p0 hp0 hm => nNvf (by rw [← List.mem_singleton.mp hm]; exact hp0)) (fun p0 hp0 xs e => by rw [List.mem_singleton.mp hp0, hNvA] at e; cases e), ?_⟩
        rw [upd_same, take_snoc hj]
        unfold nV
        rw [List.map_append]
        rfl
      · rintro σ G ⟨y4, y5, y6, y7, rfl, bl, hB3, hNv3⟩
        rw [hwv, List.take_length] at hNv3
        exact hrest _ _ ⟨_, _, _, _, rfl, bl, hB3, hNv3⟩
end
end L2.Bk
end
section
set_option Elab.async false
set_option linter.all false
set_option maxRecDepth 100000
set_option maxHeartbeats 4000000
/-! What the law reads. -/
namespace L2.Bk
open L2.My PySem PySem.Spec PyProof.Rows
abbrev sRn : Stmt := top 62
abbrev sRw : Stmt := top 63
abbrev sRl : Stmt := top 64
abbrev sRo : Stmt := top 65
abbrev sRd : Stmt := top 66
section
variable {P : Program} {w : World} {C C2 : Addr} {B : BP} {es : List Ent} {σ : St} {H : Hp} {Q : VK} {te : TE} {i t : Nat} {k : Str} {ks : List Key}
theorem tell_use {R : Hp → BP → List Ent → Nat → V → Prop} {E : XK} {e : Ent} (hB : BookAt P w H C B es) (he : es[t]? = some e) (q : ∀ x, R H B es t x → Q x H) : spTell P w C C2 R [.ref B.b, .int (t : Nat)] H Q E := by
  have ht := (List.getElem?_eq_some_iff.mp he).1
  refine ⟨B, _, es, .int (t : Nat), "int", rfl, hB, .int _, fun i ei hi x hx => ?_, fun h => ?_⟩
  · have ei : t = i := by have := V.int.inj ei; omega
    subst ei
    exact q x hx
  · have : belowV (es.length : Nat) (.int (t : Nat)) = true := decide_eq_true (show 0 ≤ ((t : Nat) : Int) ∧ ((t : Nat) : Int) < ((es.length : Nat) : Int) by omega)
    rw [this] at h
    cases h
theorem kind_t (hi : σ[i]? = some (some (.ref B.b))) (hB : BookAt P w H C B es) (ht : ∀ Q' : VK, Q' (.int (t : Nat)) H → te σ H Q') (he : es[t]? = some (k, ks)) (q : Q (.str k) H) : tMeth C "kind" (spTell P w C C2 rKind) [] E0 (tVar i) (tCons te tNil) σ H Q :=
  ⟨_, hi, B.b, B.dx, _, rfl, hB.ins, rfl, ht _ (tell_use (Q := Q) hB he fun x ⟨e, h1, h2⟩ => by
    rw [he] at h1
    obtain rfl := Option.some.inj h1
    rw [h2]
    exact q)⟩
theorem parts_t (hi : σ[i]? = some (some (.ref B.b))) (hB : BookAt P w H C B es) (ht : ∀ Q' : VK, Q' (.int (t : Nat)) H → te σ H Q') (he : es[t]? = some (k, ks)) (q : ∀ p, H p = some (.tup (ks.map kV)) → Q (.ref p) H) : tMeth C "parts" (spTell P w C C2 rParts) [] E0 (tVar i) (tCons te tNil) σ H Q :=
  ⟨_, hi, B.b, B.dx, _, rfl, hB.ins, rfl, ht _ (tell_use (Q := Q) hB he fun x ⟨e, p, h1, h2, h3⟩ => by
    rw [he] at h1
    obtain rfl := Option.some.inj h1
    rw [h2]
    exact q p h3)⟩
end
def RowL (H : Hp) (v : V) : Option (List Int) → Prop
  | some is => ∃ p, v = .ref p ∧ H p = some (.lst (is.map V.int))
  | none => v = .non
def spRn (P : Program) (w : World) (C : Addr) : Sp := fun vs H Q _ => ∃ (B : BP) (es : List Ent) (t : Nat), vs = [.ref B.b, .int (t : Nat)] ∧ BookAt P w H C B es ∧ t < es.length ∧ Q (partV es "number" t) H
def spRw (P : Program) (w : World) (C : Addr) : Sp := fun vs H Q _ => ∃ (B : BP) (es : List Ent) (t : Nat) (n : Option Nat), vs = [.ref B.b, .int (t : Nat), cntV n] ∧ BookAt P w H C B es ∧ t < es.length ∧ ∀ H' v, Same H H' → RowL H' v (rowN es t n) → Q v H'
theorem str_dec (x y : Str) : decide (V.str x = V.str y) = decide (x = y) := decide_eq_decide.mpr ⟨fun e => V.str.inj e, fun e => by rw [e]⟩
def spRd (P : Program) (w : World) (C : Addr) : Sp := fun vs H Q _ => ∃ (B : BP) (es : List Ent) (t : Nat), vs = [.ref B.b, .int (t : Nat)] ∧ BookAt P w H C B es ∧ t < es.length ∧
  (∀ H' p la na h ls ns, Same H H' → H p = none → H' p = some (.lst [.int (h : Nat), .ref la, .ref na]) → LvsAt H' la ls → NdsAt H' na ns → TreeT es t h ls ns → DrT h ls ns → Q (.ref p) H') ∧ ((∀ h ls ns, TreeT es t h ls ns → ¬ DrT h ls ns) → ∀ H', Same H H' → Q .non H')
section
variable {P : Program} {w : World} {K : PySem.W.Frag} {mg : Str → Option Value} {base : Heap} {C C2 : Addr}
theorem scRn : FnScope ["book", "term"] ["book", "term"] (defScope sRn) := ⟨rfl, rfl, rfl, by decide +kernel, rfl, by decide +kernel, by decide +kernel⟩
theorem ok_rn {f : Addr} {fd : FuncData} {k : Nat} (F : Fun K "_law_read_number" "_law_read_number" sRn f fd) (c : BkC K C) (cK : MthX P w K mg base C (k + 4) "kind" ["self", "term"] (spTell P w C C2 rKind)) (cA : MthX P w K mg base C (k + 4) "parts" ["self", "term"] (spTell P w C C2 rParts)) : FnOk P w K mg base CX0 (k + 5) f fd ["book", "term"] (spRn P w C) := by
  refine F.ok scRn (fun vs H Q E h => ?_) (fun cdv A outer s H vs Q E hr h => ?_)
  · obtain ⟨B, es, t, rfl, _⟩ := h
    rfl
  · obtain ⟨B, es, t, rfl, hB, ht, q⟩ := h
    refine ⟨_, (pss_one (ps_ret (pe_ifExp (pt_cmpR op_eq (pe_meth (pv 0) c.cls cK.m cK.F (hr.mono (by omega)) cK.b .nil pass_no (pa_cons (pv 1) pa_nil)) pe_str (nomark _)) (pe_ix ix_tup (pe_meth (pv 0) c.cls cA.m cA.F (hr.mono (by omega)) cA.b .nil pass_no (pa_cons (pv 1) pa_nil)) pe_int (fun _ _ => rfl)) pe_non))), ?_⟩
    obtain ⟨⟨k0, ks⟩, he⟩ : ∃ e, es[t]? = some e := ⟨_, List.getElem?_eq_getElem ht⟩
    refine kind_t (i := 0) rfl hB (fun Q' q => ⟨_, rfl, q⟩) he ⟨rfl, _, rfl, ?_⟩
    rw [str_dec]
    by_cases hk : k0 = "number"
    · rw [decide_eq_true hk]
      subst hk
      obtain ⟨x, rfl⟩ := part_ok (hB.wf.ok t _ he) (.inr rfl)
      have ep : partV es "number" t = kV x := by unfold partV; rw [he]; exact if_pos rfl
      rw [ep] at q
      exact iteT (parts_t (i := 0) rfl hB (fun Q' q => ⟨_, rfl, q⟩) he fun p hp => ⟨p, _, _, kV x, rfl, rfl, .of hp, atI_nat (j := 0) rfl, q⟩)
    · rw [decide_eq_false hk]
      have ep : partV es "number" t = .non := by
        unfold partV
        rw [he]
        cases ks with
        | nil => rfl
        | cons x r => exact if_neg hk
      rw [ep] at q
      exact iteF q
theorem scRw : FnScope ["book", "term", "many"] ["book", "term", "many"] (defScope sRw) := ⟨rfl, rfl, rfl, by decide +kernel, rfl, by decide +kernel, by decide +kernel⟩
theorem ok_rw {f : Addr} {fd : FuncData} {k : Nat} (F : Fun K "_law_read_row" "_law_read_row" sRw f fd) (T : Tx mg) (c : BkC K C) (cK : MthX P w K mg base C (k + 4) "kind" ["self", "term"] (spTell P w C C2 rKind)) (cA : MthX P w K mg base C (k + 4) "parts" ["self", "term"] (spTell P w C C2 rParts)) : FnOk P w K mg base CX0 (k + 5) f fd ["book", "term", "many"] (spRw P w C) := by
  refine F.ok scRw (fun vs H Q E h => ?_) (fun cdv A outer s H vs Q E hr h => ?_)
  · obtain ⟨B, es, t, n, rfl, _⟩ := h
    rfl
  · obtain ⟨B, es, t, n, rfl, hB, ht, q⟩ := h
    refine ⟨_, (pss_cons (ps_if (pt_or (pt_cmpR op_ne (pe_meth (pv 0) c.cls cK.m cK.F (hr.mono (by omega)) cK.b .nil pass_no (pa_cons (pv 1) pa_nil)) pe_str (nomark _)) (pw_or1 (pt_and (pt_cmpR op_notN (pv 2) pe_non (nomark _)) (pw_and1 (pt_cmpR op_ne (pe_callB call_len_seq (by rfl) T.len_ PySem.boot_len (pa_cons (pe_meth (pv 0) c.cls cA.m cA.F (hr.mono (by omega)) cA.b .nil pass_no (pa_cons (pv 1) pa_nil)) pa_nil)) (pv 2) (nomark _)))))) (pss_one (ps_ret pe_non)) pss_nil) (pss_one (ps_ret (pe_callTy call_list_of (by rfl) T.list_ (by decide +kernel) (pa_cons (pe_meth (pv 0) c.cls cA.m cA.F (hr.mono (by omega)) cA.b .nil pass_no (pa_cons (pv 1) pa_nil)) pa_nil))))), ?_⟩
    obtain ⟨⟨k0, ks⟩, he⟩ : ∃ e, es[t]? = some e := ⟨_, List.getElem?_eq_getElem ht⟩
    have no : rowN es t n = none → Q .non H := fun h => q H .non (Same.refl _) (by rw [h]; rfl)
    have yes : ∀ (p : Addr), k0 = "row" → (∀ m, n = some m → ks.length = m) → H p = some (.tup (ks.map kV)) → ∀ l, H l = none → Q (.ref l) (upd H l (.lst (ks.map kV))) := fun p hk hm hp l nl => by
      obtain ⟨o1, o2, o3⟩ := L2.Bk.row_ok (hB.wf.ok t _ he) hk
      have hlen : ks.length = (ks.filterMap intK).length := by conv => lhs; rw [o1]; rw [List.length_map]
      have e1 : rowN es t n = some (ks.filterMap intK) := by
        unfold rowN rowOf
        rw [he]
        dsimp only
        rw [if_pos hk]
        dsimp only
        rw [if_pos (fun m e => by rw [← hlen]; exact hm m e)]
      refine q _ _ (same_upd nl) ?_
      rw [e1]
      refine ⟨l, rfl, ?_⟩
      rw [upd_same]
      conv => lhs; rw [o1]
      rw [List.map_map]
      rfl
    refine kind_t (i := 0) rfl hB (fun Q' q => ⟨_, rfl, q⟩) he ⟨rfl, _, rfl, ?_⟩
    rw [str_dec]
    by_cases hk : k0 = "row"
    · rw [decide_eq_true hk]
      refine iteF ?_
      cases n with
      | none =>
        refine ⟨_, rfl, rfl, _, rfl, iteF ?_⟩
        exact parts_t (i := 0) rfl hB (fun Q' q => ⟨_, rfl, q⟩) he fun p hp => ⟨p, _, rfl, .inr (.of hp), fun l nl => yes p hk (fun m e => nomatch e) hp l nl⟩
      | some m =>
        refine ⟨_, rfl, rfl, _, rfl, iteT ?_⟩
        refine parts_t (i := 0) rfl hB (fun Q' q => ⟨_, rfl, q⟩) he fun p hp => ⟨p, _, rfl, .inr (.of hp), _, rfl, rfl, _, rfl, ?_⟩
        rw [List.length_map]
        show if (!decide (V.int (ks.length : Nat) = V.int (m : Nat))) = true then _ else _
        rw [dec_int]
        by_cases hm : ks.length = m
        · rw [show (((ks.length : Nat) : Int) == ((m : Nat) : Int)) = true from beq_iff_eq.mpr (by omega)]
          refine iteF ?_
          exact parts_t (i := 0) rfl hB (fun Q' q => ⟨_, rfl, q⟩) he fun p hp => ⟨p, _, rfl, .inr (.of hp), fun l nl => yes p hk (fun m' e => by cases e; exact hm) hp l nl⟩
        · rw [show (((ks.length : Nat) : Int) == ((m : Nat) : Int)) = false from beq_eq_false_iff_ne.mpr (by omega)]
          refine iteT (no ?_)
          obtain ⟨o1, o2, o3⟩ := L2.Bk.row_ok (hB.wf.ok t _ he) hk
          have hlen : ks.length = (ks.filterMap intK).length := by conv => lhs; rw [o1]; rw [List.length_map]
          unfold rowN rowOf
          rw [he]
          dsimp only
          rw [if_pos hk]
          dsimp only
          rw [if_neg (fun z => hm (by rw [hlen]; exact z m rfl))]
    · rw [decide_eq_false hk]
      refine iteT (no ?_)
      unfold rowN rowOf
      rw [he]
      dsimp only
      rw [if_neg hk]
theorem scRl : FnScope ["book", "term", "some"] ["book", "term"] (defScope sRl) := ⟨rfl, rfl, rfl, by decide +kernel, rfl, by decide +kernel, by decide +kernel⟩
theorem ok_rl {f : Addr} {fd : FuncData} {k : Nat} (F : Fun K "_law_read_leaf" "_law_read_leaf" sRl f fd) (c : BkC K C) (cK : MthX P w K mg base C (k + 4) "kind" ["self", "term"] (spTell P w C C2 rKind)) (cA : MthX P w K mg base C (k + 4) "parts" ["self", "term"] (spTell P w C C2 rParts)) (cP : Cal P w K mg base (k + 5) "_law_read_number" ["book", "term"] (spRn P w C)) (cR : Cal P w K mg base (k + 5) "_law_read_row" ["book", "term", "many"] (spRw P w C)) : FnOk P w K mg base CX0 (k + 6) f fd ["book", "term"] (spTl P w C) := by
  refine F.ok scRl (fun vs H Q E h => ?_) (fun cdv A outer s H vs Q E hr h => ?_)
  · obtain ⟨B, es, t, rfl, _⟩ := h
    rfl
  · obtain ⟨B, es, t, rfl, hB, ht, q⟩ := h
    refine ⟨_, (pss_cons (ps_if (pt_cmpR op_eq (pe_c cP hr (by omega) (by rfl) (pa_cons (pv 0) (pa_cons (pv 1) pa_nil))) pe_int (nomark _)) (pss_one (ps_ret pe_non)) pss_nil) (pss_cons (ps_set (i := 2) scRl.nd rfl (Or.inl rfl) (pe_c cR hr (by omega) (by rfl) (pa_cons (pv 0) (pa_cons (pv 1) (pa_cons pe_int pa_nil))))) (pss_cons (ps_if (pt_or (pt_cmpR op_isN (pv 2) pe_non (nomark _)) (pw_or1 (pt_cmpR op_ne (pe_meth (pv 0) c.cls cK.m cK.F (hr.mono (by omega)) cK.b .nil pass_no (pa_cons (pe_ix ix_list (pv 2) pe_int (fun _ _ => rfl)) pa_nil)) pe_str (nomark _)))) (pss_one (ps_ret pe_str)) pss_nil) (pss_one (ps_ret (pe_tup (pa_cons (pe_ix ix_tup (pe_meth (pv 0) c.cls cA.m cA.F (hr.mono (by omega)) cA.b .nil pass_no (pa_cons (pe_ix ix_list (pv 2) pe_int (fun _ _ => rfl)) pa_nil)) pe_int (fun _ _ => rfl)) (pa_cons (pe_ix ix_list (pv 2) pe_int (fun _ _ => rfl)) pa_nil)))))))), ?_⟩
    obtain ⟨n1, n2⟩ := num_rd hB.wf t
    have wf := hB.wf
    refine seq_use (t := tIfS _ _ _) (fun σ G => σ = [some (.ref B.b), some (.int (t : Nat)), none] ∧ G = H ∧ es[t]? ≠ some (numbE 0)) ?_ (fun hrest => ?_)
    · rintro σ G ⟨rfl, rfl, h0⟩
      refine ⟨_, rfl, _, rfl, B, es, t, some 2, rfl, hB, ht, fun H1 v s1 hv => ?_⟩
      have hB1 := hB.same s1
      rcases row_rd hB.wf t (some 2) with ⟨e1, e2⟩ | ⟨is, e1, e2, e3, e4, e5⟩
      · rw [e1] at hv
        obtain rfl : v = .non := hv
        refine ⟨_, rfl, rfl, _, rfl, iteT (q _ _ s1 (.inr ⟨leaf_no h0 fun is hi => ?_, .inl rfl⟩))⟩
        obtain ⟨k, hk, hne⟩ := e2 is hi
        cases hk
        exact hne
      · rw [e1] at hv
        obtain ⟨a, b, rfl⟩ := two_of (e3 2 rfl)
        obtain ⟨p, rfl, hp⟩ := hv
        have ha := e5 a (by simp)
        have hb := e5 b (by simp)
        have hlen := hB.len
        obtain ⟨⟨k0, ks⟩, he⟩ : ∃ e, es[a]? = some e := ⟨_, List.getElem?_eq_getElem ha⟩
        have ixa : ∀ (H2 : Hp) (hp2 : H2 p = some (.lst ((nInt [a, b]).map V.int))) (Q' : VK), Q' (.int (a : Nat)) H2 → tOp (rIxL K) (tVar 2) (tC (.int 0)) [some (.ref B.b), some (.int (t : Nat)), some (.ref p)] H2 Q' := fun H2 hp2 Q' q => ⟨_, rfl, p, _, _, .int (a : Nat), rfl, rfl, .of hp2, atI_nat (j := 0) rfl, q⟩
        refine ⟨_, rfl, rfl, _, rfl, iteF ?_⟩
        refine kind_t (i := 0) rfl hB1 (ixa H1 hp) he ⟨rfl, _, rfl, ?_⟩
        rw [str_dec]
        by_cases hk : k0 = "name"
        · rw [decide_eq_true hk]
          subst hk
          obtain ⟨x, rfl⟩ := part_ok (wf.ok a _ he) (.inl rfl)
          have ep : partV es "name" a = kV x := by unfold partV; rw [he]; exact if_pos rfl
          refine iteF (parts_t (i := 0) rfl hB1 (ixa H1 hp) he fun p2 hp2 => ⟨p2, _, _, kV x, rfl, rfl, .of hp2, atI_nat (j := 0) rfl, _, rfl, p, _, _, .int (b : Nat), rfl, rfl, .of hp, atI_nat (j := 1) rfl, by show 2 ≤ sizeLine; decide, fun r nr => ?_⟩)
          exact q _ _ (s1.trans (same_upd nr)) (leaf_two wf e2 (le_maxI (by omega)) (by rw [ep]; exact upd_same))
        · rw [decide_eq_false hk]
          refine iteT (q _ _ s1 (.inr ⟨fun l hl => ?_, .inl rfl⟩))
          cases l with
          | none => exact numb_row (get2 hl e2)
          | some pr =>
            obtain ⟨a', x1, x2⟩ := hl
            have e := row_inj (get2 x1 e2)
            have e : [(a' : Int), pr.2] = [(a : Int), (b : Int)] := e
            obtain ⟨f1, _⟩ := List.cons.inj e
            rw [Int.ofNat_inj.mp f1] at x2
            exact hk (congrArg (fun e : Ent => e.1) (get2 he x2))
    · refine ⟨_, rfl, _, rfl, B, es, t, rfl, hB, ht, ?_⟩
      rcases n1 with e | ⟨j, e, _⟩
      · rw [e]
        refine ⟨rfl, _, rfl, ?_⟩
        rw [show decide (V.non = V.int 0) = false from decide_eq_false fun z => nomatch z]
        exact iteF (hrest _ _ ⟨rfl, rfl, fun h => by rw [(n2 0).mpr h] at e; cases e⟩)
      · rw [e]
        refine ⟨rfl, _, rfl, ?_⟩
        rw [dec_int]
        by_cases hj : j = 0
        · subst hj
          refine iteT (q _ _ (fun _ _ h => h) (.inl ⟨none, (n2 0).mp e, rfl, fun z k h => nomatch h⟩))
        · rw [show (((j : Nat) : Int) == 0) = false from beq_eq_false_iff_ne.mpr (by omega)]
          exact iteF (hrest _ _ ⟨rfl, rfl, fun h => hj (by rw [(n2 0).mpr h] at e; have := V.int.inj e; omega)⟩)
abbrev nRo : List Str := ["book", "term", "some", "aside", "one"]
theorem scRo : FnScope nRo ["book", "term"] (defScope sRo) := ⟨rfl, rfl, rfl, by decide +kernel, rfl, by decide +kernel, by decide +kernel⟩
theorem ok_ro {f : Addr} {fd : FuncData} {k : Nat} (F : Fun K "_law_read_node" "_law_read_node" sRo f fd) (T : Tx mg) (cP : Cal P w K mg base (k + 5) "_law_read_number" ["book", "term"] (spRn P w C)) (cR : Cal P w K mg base (k + 5) "_law_read_row" ["book", "term", "many"] (spRw P w C)) : FnOk P w K mg base CX0 (k + 6) f fd ["book", "term"] (spTn P w C) := by
  refine F.ok scRo (fun vs H Q E h => ?_) (fun cdv A outer s H vs Q E hr h => ?_)
  · obtain ⟨B, es, t, rfl, _⟩ := h
    rfl
  · obtain ⟨B, es, t, rfl, hB, ht, q⟩ := h
    refine ⟨_, (pss_cons (ps_set (i := 2) scRo.nd rfl (Or.inl rfl) (pe_c cR hr (by omega) (by rfl) (pa_cons (pv 0) (pa_cons (pv 1) (pa_cons pe_int pa_nil))))) (pss_cons (ps_set (i := 3) scRo.nd rfl (Or.inl rfl) (pe_ifExp (pt_cmpR op_isN (pv 2) pe_non (nomark _)) pe_non (pe_c cR hr (by omega) (by rfl) (pa_cons (pv 0) (pa_cons (pe_ix ix_list (pv 2) pe_int (fun _ _ => rfl)) (pa_cons pe_non pa_nil)))))) (pss_cons (ps_if (pt_cmpR op_isN (pv 3) pe_non (nomark _)) (pss_one (ps_ret pe_str)) pss_nil) (pss_one (ps_ret (pe_tup (pa_cons (pe_tup (pa_cons (pe_c cP hr (by omega) (by rfl) (pa_cons (pv 0) (pa_cons (pe_ix ix_list (pv 2) pe_int (fun _ _ => rfl)) pa_nil))) (pa_cons (pe_c cP hr (by omega) (by rfl) (pa_cons (pv 0) (pa_cons (pe_ix ix_list (pv 2) pe_int (fun _ _ => rfl)) pa_nil))) pa_nil))) (pa_cons (pe_ix ix_list (pv 2) pe_int (fun _ _ => rfl)) (pa_cons (pe_tupleOf (by rfl) T.tuple_ (pe_lc (own := [("one", 4)]) (g := gName 4) (te := tCall (spRn P w C) [] E0 (tCons (tVar 0) (tCons (tVar 4) tNil))) rfl scRo.nd (pi_list (pv 3)) (blkOk_by (N := nRo) (sc := defScope sRo) (by decide +kernel)) (fun _ _ _ _ _ => pg_name (i := 4) scRo.nd rfl (Or.inl rfl)) (fun _ _ _ _ _ => pts_nil) (fun _ _ _ _ _ => (pe_c cP hr (by omega) (by rfl) (pa_cons (pv 0) (pa_cons (pv 4) pa_nil)))))) pa_nil))))))))), ?_⟩
    refine ⟨_, rfl, _, rfl, B, es, t, some 4, rfl, hB, ht, fun H1 v s1 hv => ?_⟩
    have hB1 := hB.same s1
    rcases row_rd hB.wf t (some 4) with ⟨e1, e2⟩ | ⟨is, e1, e2, e3, e4, e5⟩
    · rw [e1] at hv
      obtain rfl : v = .non := hv
      refine ⟨_, rfl, rfl, _, rfl, iteT ?_⟩
      refine ⟨_, rfl, rfl, _, rfl, iteT (q _ _ s1 (.inr ⟨node_no fun is hi => ?_, .inl rfl⟩))⟩
      obtain ⟨k, hk, hne⟩ := e2 is hi
      cases hk
      exact hne
    · rw [e1] at hv
      obtain ⟨a, b, c, d, rfl⟩ := four_of (e3 4 rfl)
      obtain ⟨p, rfl, hp⟩ := hv
      have ha := e5 a (by simp)
      have hb := e5 b (by simp)
      have hc := e5 c (by simp)
      have hd := e5 d (by simp)
      have hlen := hB.len
      refine ⟨_, rfl, rfl, _, rfl, iteF ?_⟩
      refine ⟨_, rfl, _, rfl, p, _, _, .int (d : Nat), rfl, rfl, .of hp, atI_nat (j := 3) rfl, B, es, d, none, rfl, hB1, hd, fun H2 v2 s2 hv2 => ?_⟩
      have hB2 := hB1.same s2
      have hp2' := s2 _ _ hp
      have s12 := s1.trans s2
      rcases row_rd hB.wf d none with ⟨f1, f2⟩ | ⟨js, f1, f2, f3, f4, f5⟩
      · rw [f1] at hv2
        obtain rfl : v2 = .non := hv2
        refine ⟨_, rfl, rfl, _, rfl, iteT (q _ _ s12 (.inr ⟨fun m hm => ?_, .inl rfl⟩))⟩
        obtain ⟨a', b', c', js', x1, x2, x3, x4, x5⟩ := hm
        have e := row_inj (get2 x1 e2)
        have e : [(a' : Int), (b' : Int), m.2.1, (c' : Int)] = [(a : Int), (b : Int), (c : Int), (d : Int)] := e
        obtain ⟨_, e⟩ := List.cons.inj e
        obtain ⟨_, e⟩ := List.cons.inj e
        obtain ⟨_, e⟩ := List.cons.inj e
        obtain ⟨e4', _⟩ := List.cons.inj e
        rw [Int.ofNat_inj.mp e4'] at x4
        obtain ⟨k, hk, _⟩ := f2 _ x4
        cases hk
      · rw [f1] at hv2
        obtain ⟨p2, rfl, hp2⟩ := hv2
        refine ⟨_, rfl, rfl, _, rfl, iteF ?_⟩
        refine ⟨_, rfl, _, rfl, p, _, _, .int (a : Nat), rfl, rfl, .of hp2', atI_nat (j := 0) rfl, B, es, a, rfl, hB2, ha, ?_⟩
        refine ⟨_, rfl, _, rfl, p, _, _, .int (b : Nat), rfl, rfl, .of hp2', atI_nat (j := 1) rfl, B, es, b, rfl, hB2, hb, by show 2 ≤ sizeLine; decide, fun na nna => ?_⟩
        have u1 := same_upd (o := HO.tup [partV es "number" a, partV es "number" b]) nna
        have hna : (upd H2 na (.tup [partV es "number" a, partV es "number" b])) na = some (.tup [partV es "number" a, partV es "number" b]) := upd_same
        generalize upd H2 na (.tup [partV es "number" a, partV es "number" b]) = H3 at *
        have hB3 := hB2.same u1
        refine ⟨_, rfl, p, _, _, .int (c : Nat), rfl, rfl, .of (u1 _ _ hp2'), atI_nat (j := 2) rfl, _, rfl, p2, rfl, ⟨_, .of (u1 _ _ hp2)⟩, fun D nD => ?_⟩
        refine lcP (walk_list (xs := (nInt js).map V.int)) (fun i => partV es "number" (js.getD i 0)) (Nat.lt_of_le_of_lt (show ((nInt js).map V.int).length ≤ 400 by rw [List.length_map, List.length_map]; exact f4) (by decide)) nD (fun _ sm => .of (sm _ _ (u1 _ _ hp2))) ?_ ?_
        · rintro i y G6 G7 Q' hi sm ⟨rfl, hy⟩ hq
          rw [List.getElem?_map, List.getElem?_map, Option.map_map] at hy
          obtain ⟨j, hj, rfl⟩ := Option.map_eq_some_iff.mp hy
          have eg : js.getD i 0 = j := by rw [List.getD_eq_getElem?_getD, hj]; rfl
          rw [eg] at hq
          refine ⟨rfl, ?_⟩
          show tCall (spRn P w C) [] E0 (tCons (tVar 0) (tCons (tVar 4) tNil)) _ _ _
          exact ⟨_, rfl, _, rfl, B, es, j, rfl, hB3.same sm, f5 j (List.mem_of_getElem? hj), hq _ (Same.refl _)⟩
        · intro G6 s6 hd6
          have el : (List.range ((nInt js).map V.int).length).map (fun i => partV es "number" (js.getD i 0)) = js.map (partV es "number") := by
            rw [List.length_map, List.length_map, range_getD]
          rw [el] at hd6
          refine .inl ⟨D, _, rfl, .of hd6, fun ca nca => ⟨by show 3 ≤ sizeLine; decide, fun r nr => ?_⟩⟩
          have u2 := same_upd (o := HO.tup (js.map (partV es "number"))) nca
          have u3 := same_upd (o := HO.tup [.ref na, .int (c : Nat), .ref ca]) nr
          exact q _ _ ((((s12.trans u1).trans s6).trans u2).trans u3) (node_rd hB.wf e2 f2 f4 (le_maxI (by omega)) upd_same (u3 _ _ (u2 _ _ (s6 _ _ hna))) (u3 _ _ upd_same))
abbrev nRd : List Str := ["book", "term", "some", "leaves", "nodes", "parts", "one"]
theorem scRd : FnScope nRd ["book", "term"] (defScope sRd) := ⟨rfl, rfl, rfl, by decide +kernel, rfl, by decide +kernel, by decide +kernel⟩
theorem ok_rd {f : Addr} {fd : FuncData} {k : Nat} (F : Fun K "_law_read" "_law_read" sRd f fd) (T : Tx mg) (c : BkC K C) (cK : MthX P w K mg base C (k + 4) "kind" ["self", "term"] (spTell P w C C2 rKind)) (cA : MthX P w K mg base C (k + 4) "parts" ["self", "term"] (spTell P w C C2 rParts)) (cP : Cal P w K mg base (k + 5) "_law_read_number" ["book", "term"] (spRn P w C)) (cR : Cal P w K mg base (k + 5) "_law_read_row" ["book", "term", "many"] (spRw P w C))
    (cL : Cal P w K mg base (k + 6) "_law_read_leaf" ["book", "term"] (spTl P w C)) (cN : Cal P w K mg base (k + 6) "_law_read_node" ["book", "term"] (spTn P w C)) (cZ : Cal P w K mg base (k + 6) "_law_bad" ["parts"] spLbd) : FnOk P w K mg base CX0 (k + 7) f fd ["book", "term"] (spRd P w C) := by
  refine F.ok scRd (fun vs H Q E h => ?_) (fun cdv A outer s H vs Q E hr h => ?_)
  · obtain ⟨B, es, t, rfl, _⟩ := h
    rfl
  · obtain ⟨B, es, t, rfl, hB, ht, qy, qn⟩ := h
    refine ⟨_, (pss_cons (ps_set (i := 2) scRd.nd rfl (Or.inl rfl) (pe_c cR hr (by omega) (by rfl) (pa_cons (pv 0) (pa_cons (pv 1) (pa_cons pe_int pa_nil))))) (pss_cons (ps_if (pt_or (pt_cmpR op_isN (pv 2) pe_non (nomark _)) (pw_or (pt_cmpR op_ne (pe_meth (pv 0) c.cls cK.m cK.F (hr.mono (by omega)) cK.b .nil pass_no (pa_cons (pe_ix ix_list (pv 2) pe_int (fun _ _ => rfl)) pa_nil)) pe_str (nomark _)) (pw_or1 (pt_cmpR op_ne (pe_ix ix_tup (pe_meth (pv 0) c.cls cA.m cA.F (hr.mono (by omega)) cA.b .nil pass_no (pa_cons (pe_ix ix_list (pv 2) pe_int (fun _ _ => rfl)) pa_nil)) pe_int (fun _ _ => rfl)) pe_str (nomark _))))) (pss_one (ps_ret pe_non)) pss_nil) (pss_cons (ps_set (i := 3) scRd.nd rfl (Or.inl rfl) (pe_c cR hr (by omega) (by rfl) (pa_cons (pv 0) (pa_cons (pe_ix ix_list (pv 2) pe_int (fun _ _ => rfl)) (pa_cons pe_non pa_nil))))) (pss_cons (ps_set (i := 4) scRd.nd rfl (Or.inl rfl) (pe_c cR hr (by omega) (by rfl) (pa_cons (pv 0) (pa_cons (pe_ix ix_list (pv 2) pe_int (fun _ _ => rfl)) (pa_cons pe_non pa_nil))))) (pss_cons (ps_if (pt_or (pt_cmpR op_isN (pv 3) pe_non (nomark _)) (pw_or1 (pt_cmpR op_isN (pv 4) pe_non (nomark _)))) (pss_one (ps_ret pe_non)) pss_nil) (pss_cons (ps_set (i := 5) scRd.nd rfl (Or.inl rfl) (pe_lst (pa_cons (pe_c cP hr (by omega) (by rfl) (pa_cons (pv 0) (pa_cons (pe_ix ix_list (pv 2) pe_int (fun _ _ => rfl)) pa_nil))) (pa_cons (pe_tupleOf (by rfl) T.tuple_ (pe_lc (own := [("one", 6)]) (g := gName 6) (te := tCall (spTl P w C) [] E0 (tCons (tVar 0) (tCons (tVar 6) tNil))) rfl scRd.nd (pi_list (pv 3)) (blkOk_by (N := nRd) (sc := defScope sRd) (by decide +kernel)) (fun _ _ _ _ _ => pg_name (i := 6) scRd.nd rfl (Or.inl rfl)) (fun _ _ _ _ _ => pts_nil) (fun _ _ _ _ _ => (pe_c cL hr (by omega) (by rfl) (pa_cons (pv 0) (pa_cons (pv 6) pa_nil)))))) pa_nil)))) (pss_cons (ps_expr (pe_bm PySem.F.plainAttrs_list PySem.F.slot_list_append PySem.F.type_list_append mt_append (pv 5) (pa_cons (pe_tupleOf (by rfl) T.tuple_ (pe_lc (own := [("one", 6)]) (g := gName 6) (te := tCall (spTn P w C) [] E0 (tCons (tVar 0) (tCons (tVar 6) tNil))) rfl scRd.nd (pi_list (pv 4)) (blkOk_by (N := nRd) (sc := defScope sRd) (by decide +kernel)) (fun _ _ _ _ _ => pg_name (i := 6) scRd.nd rfl (Or.inl rfl)) (fun _ _ _ _ _ => pts_nil) (fun _ _ _ _ _ => (pe_c cN hr (by omega) (by rfl) (pa_cons (pv 0) (pa_cons (pv 6) pa_nil)))))) pa_nil))) (pss_one (ps_ret (pe_ifExp (pt_cmpR op_isN (pe_c cZ hr (by omega) (by rfl) (pa_cons (pv 5) pa_nil)) pe_non (nomark _)) (pv 5) pe_non)))))))))), ?_⟩
    refine ⟨_, rfl, _, rfl, B, es, t, some 4, rfl, hB, ht, fun H1 v s1 hv => ?_⟩
    have hB1 := hB.same s1
    have wf := hB.wf
    rcases row_rd hB.wf t (some 4) with ⟨e1, e2⟩ | ⟨is, e1, e2, e3, e4, e5⟩
    · rw [e1] at hv
      obtain rfl : v = .non := hv
      refine ⟨_, rfl, rfl, _, rfl, iteT (qn (fun h ls ns z _ => ?_) _ s1)⟩
      obtain ⟨_, _, _, _, _, _, x1, _⟩ := z
      obtain ⟨k, hk, hne⟩ := e2 _ x1
      cases hk
      exact hne rfl
    · rw [e1] at hv
      obtain ⟨a, b, c', d, rfl⟩ := four_of (e3 4 rfl)
      obtain ⟨p, rfl, hp⟩ := hv
      have ha := e5 a (by simp)
      have hb := e5 b (by simp)
      have hc := e5 c' (by simp)
      have hd := e5 d (by simp)
      have hlen := hB.len
      have same4 : ∀ {h : Nat} {ls : List Lf} {ns : List Nd}, TreeT es t h ls ns → es[a]? = some (nameE "tree") ∧ (∃ is : List Nat, es[c']? = some (rowE (nInt is))) ∧ ∃ is : List Nat, es[d]? = some (rowE (nInt is)) := fun {h ls ns} z => by
        obtain ⟨a', b', c'', d', is', js', x1, x2, x3, x4, x5, x6, x7⟩ := z
        have e := row_inj (get2 x1 e2)
        have e : [(a' : Int), (b' : Int), (c'' : Int), (d' : Int)] = [(a : Int), (b : Int), (c' : Int), (d : Int)] := e
        obtain ⟨f1, e⟩ := List.cons.inj e
        obtain ⟨_, e⟩ := List.cons.inj e
        obtain ⟨f3, e⟩ := List.cons.inj e
        obtain ⟨f4, e⟩ := List.cons.inj e
        rw [Int.ofNat_inj.mp f1] at x2
        rw [Int.ofNat_inj.mp f3] at x4
        rw [Int.ofNat_inj.mp f4] at x6
        exact ⟨x2, ⟨_, x4⟩, ⟨_, x6⟩⟩
      obtain ⟨⟨k0, ks⟩, he⟩ : ∃ e, es[a]? = some e := ⟨_, List.getElem?_eq_getElem ha⟩
      have no1 : es[a]? ≠ some (nameE "tree") → Q .non H1 := fun h => qn (fun h' ls ns z _ => h (same4 z).1) _ s1
      have ixa : ∀ (Q' : VK), Q' (.int (a : Nat)) H1 → tOp (rIxL K) (tVar 2) (tC (.int 0)) [some (.ref B.b), some (.int (t : Nat)), some (.ref p), none, none, none, none] H1 Q' := fun Q' q => ⟨_, rfl, p, _, _, .int (a : Nat), rfl, rfl, .of hp, atI_nat (j := 0) rfl, q⟩
      refine ⟨_, rfl, rfl, _, rfl, iteF ?_⟩
      refine kind_t (i := 0) rfl hB1 ixa he ⟨rfl, _, rfl, ?_⟩
      rw [str_dec]
      by_cases hk : k0 = "name"
      rotate_left
      · rw [decide_eq_false hk]
        exact iteT (no1 fun h => hk (congrArg (fun e : Ent => e.1) (get2 he h)))
      rw [decide_eq_true hk]
      subst hk
      obtain ⟨z, rfl⟩ : ∃ z, ks = [.inr z] := by
        have ok := wf.ok a _ he
        generalize e : (("name", ks) : Ent) = en at ok
        cases ok with
        | name x h => exact ⟨x, congrArg (fun e : Ent => e.2) e⟩
        | num k h0 h1 => exact absurd (congrArg (fun e : Ent => e.1) e) (by show ¬ (("name" : Str) = "number"); decide +kernel)
        | fresh k h0 => exact absurd (congrArg (fun e : Ent => e.1) e) (by show ¬ (("name" : Str) = "fresh"); decide +kernel)
        | row is hl h => exact absurd (congrArg (fun e : Ent => e.1) e) (by show ¬ (("name" : Str) = "row"); decide +kernel)
        | parts k is hk h => exact absurd (congrArg (fun e : Ent => e.1) e).symm (sz_ne _ hk).2.1
      refine iteF (parts_t (i := 0) rfl hB1 ixa he fun p1 hp1 => ⟨p1, _, _, .str z, rfl, rfl, .of hp1, atI_nat (j := 0) rfl, rfl, _, rfl, ?_⟩)
      rw [str_dec]
      by_cases hz : z = "tree"
      rotate_left
      · rw [decide_eq_false hz]
        exact iteT (no1 fun h => hz (name_inj (get2 he h)))
      rw [decide_eq_true hz]
      subst hz
      refine iteF ?_
      have no2 : ∀ {u : Nat}, rowN es u none = none → ¬ ∃ is : List Nat, es[u]? = some (rowE (nInt is)) := fun {u} h1 ⟨is, h2⟩ => by
        rcases row_rd hB.wf u none with ⟨_, f2⟩ | ⟨_, f1, _⟩
        · obtain ⟨k, hk, _⟩ := f2 _ h2
          cases hk
        · rw [h1] at f1; cases f1
      refine ⟨_, rfl, _, rfl, p, _, _, .int (c' : Nat), rfl, rfl, .of hp, atI_nat (j := 2) rfl, B, es, c', none, rfl, hB1, hc, fun H2 v2 s2 hv2 => ?_⟩
      have hB2 := hB1.same s2
      have hp2 := s2 _ _ hp
      dsimp only [gName]
      refine ⟨_, rfl, _, rfl, p, _, _, .int (d : Nat), rfl, rfl, .of hp2, atI_nat (j := 3) rfl, B, es, d, none, rfl, hB2, hd, fun H3 v3 s3 hv3 => ?_⟩
      have hB3 := hB2.same s3
      have hp3 := s3 _ _ hp2
      have s13 := (s1.trans s2).trans s3
      rcases row_rd hB.wf c' none with ⟨c1, _⟩ | ⟨is, c1, c2, _, c4, c5⟩
      · rw [c1] at hv2
        obtain rfl : v2 = .non := hv2
        exact ⟨_, rfl, rfl, _, rfl, iteT (qn (fun h' ls ns z _ => no2 c1 (same4 z).2.1) _ s13)⟩
      rw [c1] at hv2
      obtain ⟨pc, rfl, hpc⟩ := hv2
      refine ⟨_, rfl, rfl, _, rfl, iteF ?_⟩
      rcases row_rd hB.wf d none with ⟨d1, _⟩ | ⟨js, d1, d2, _, d4, d5⟩
      · rw [d1] at hv3
        obtain rfl : v3 = .non := hv3
        exact ⟨_, rfl, rfl, _, rfl, iteT (qn (fun h' ls ns z _ => no2 d1 (same4 z).2.2) _ s13)⟩
      rw [d1] at hv3
      obtain ⟨pd, rfl, hpd⟩ := hv3
      refine ⟨_, rfl, rfl, _, rfl, iteF ?_⟩
      have hpc3 := s3 _ _ hpc
      refine ⟨_, rfl, _, rfl, p, _, _, .int (b : Nat), rfl, rfl, .of hp3, atI_nat (j := 1) rfl, B, es, b, rfl, hB3, hb, _, rfl, pc, rfl, ⟨_, .of hpc3⟩, fun D nD => ?_⟩
      refine lcS (walk_list (xs := (nInt is).map V.int)) (tt := tYes) (fun G i acc => Paired (fun (j : Nat) v => LfRd es j G v) (is.take i) acc) (Nat.lt_of_le_of_lt (show ((nInt is).map V.int).length ≤ 400 by rw [List.length_map, List.length_map]; exact c4) (by decide)) nD (fun _ _ _ _ t h => pairedM h fun _ _ r => r.tk t) (fun _ sm => .of (sm _ _ hpc3)) .nil ?_ ?_
      · rintro i y G6 G7 Q' N' acc hi sm hR ⟨rfl, hy⟩ hq
        rw [List.getElem?_map, List.getElem?_map, Option.map_map] at hy
        obtain ⟨j, hj, rfl⟩ := Option.map_eq_some_iff.mp hy
        refine ⟨rfl, ?_⟩
        show tCall (spTl P w C) [] E0 (tCons (tVar 0) (tCons (tVar 6) tNil)) _ _ _
        refine ⟨_, rfl, _, rfl, B, es, j, rfl, hB3.same sm, c5 j (List.mem_of_getElem? hj), fun H' v s3 hv => hq v H' s3 ?_⟩
        rw [take_snoc hj]
        exact L2.My.Paired.snoc (pairedM hR fun _ _ r => r.tk (.same s3)) hv
      intro G3 vs sG3 hD2 hL3 hl3
      rw [List.length_map, List.length_map, List.take_length] at hL3
      refine .inl ⟨D, vs, rfl, .of hD2, fun la nla => ⟨by show 2 ≤ sizeLine; decide, fun l nl => ?_⟩⟩
      have u1 := same_upd (o := HO.tup vs) nla
      have hla := upd_same (H := G3) (a := la) (o := HO.tup vs)
      have hB4 := (hB3.same sG3).same u1
      have s4 := (s13.trans sG3).trans u1
      have sG4 := sG3.trans u1
      have hL4 := pairedM hL3 fun _ _ r => r.tk (.same u1)
      generalize upd G3 la (.tup vs) = G4 at *
      have u2 := same_upd (o := HO.lst [partV es "number" b, .ref la]) nl
      have hl5 := upd_same (H := G4) (a := l) (o := HO.lst [partV es "number" b, .ref la])
      have nlH := s4.free nl
      have hB5 := hB4.same u2
      have s5 := s4.trans u2
      have hla5 := u2 _ _ hla
      have hL5 := pairedM hL4 fun _ _ r => r.tk (.same u2)
      have hpd5 := u2 _ _ (sG4 _ _ hpd)
      generalize upd G4 l (.lst [partV es "number" b, .ref la]) = G5 at *
      dsimp only [gName]
      refine ⟨_, rfl, .inl ⟨rfl, _, SqL.of hl5⟩, _, rfl, pd, rfl, ⟨_, .of hpd5⟩, fun D3 nD3 => ?_⟩
      refine lcS (walk_list (xs := (nInt js).map V.int)) (tt := tYes) (fun G i acc => Paired (fun (j : Nat) v => NdRd es j G v) (js.take i) acc) (Nat.lt_of_le_of_lt (show ((nInt js).map V.int).length ≤ 400 by rw [List.length_map, List.length_map]; exact d4) (by decide)) nD3 (fun _ _ _ _ t h => pairedM h fun _ _ r => r.tk t) (fun _ sm => .of (sm _ _ hpd5)) .nil ?_ ?_
      · rintro i y G6 G7 Q' N' acc hi sm hR ⟨rfl, hy⟩ hq
        rw [List.getElem?_map, List.getElem?_map, Option.map_map] at hy
        obtain ⟨j, hj, rfl⟩ := Option.map_eq_some_iff.mp hy
        refine ⟨rfl, ?_⟩
        show tCall (spTn P w C) [] E0 (tCons (tVar 0) (tCons (tVar 6) tNil)) _ _ _
        refine ⟨_, rfl, _, rfl, B, es, j, rfl, hB5.same sm, d5 j (List.mem_of_getElem? hj), fun H' v s4 hv => hq v H' s4 ?_⟩
        rw [take_snoc hj]
        exact L2.My.Paired.snoc (pairedM hR fun _ _ r => r.tk (.same s4)) hv
      intro G6 ws s6 hD3 hN6 hl6
      rw [List.length_map, List.length_map, List.take_length] at hN6
      refine .inl ⟨D3, ws, rfl, .of hD3, fun na nna => ?_⟩
      have u3 := same_upd (o := HO.tup ws) nna
      have hna := upd_same (H := G6) (a := na) (o := HO.tup ws)
      have s56 := s6.trans u3
      have hN7 := pairedM hN6 fun _ _ r => r.tk (.same u3)
      generalize upd G6 na (.tup ws) = G7 at *
      have hl7 := s56 _ _ hl5
      refine ⟨l, _, .ref na, rfl, rfl, hl7, by show 2 < sizeLine; decide, ?_⟩
      have tkp : TK G7 (upd G7 l (.lst [partV es "number" b, .ref la, .ref na])) := TK.upd hl7 fun xs e => nomatch e
      have sH8 : Same H (upd G7 l (.lst [partV es "number" b, .ref la, .ref na])) := same_put (s5.trans s56) nlH
      have hl8 := upd_same (H := G7) (a := l) (o := HO.lst [partV es "number" b, .ref la, .ref na])
      have hla8 := tkp _ _ (s56 _ _ hla5)
      have hna8 := tkp _ _ hna
      have rd : TrRd es t (upd G7 l (.lst [partV es "number" b, .ref la, .ref na])) (partV es "number" b) la na := ⟨a, b, c', d, is, js, vs, ws, e2, he, (num_rd wf b).2, c2, d2, hla8, hna8, pairedM hL5 fun _ _ r => (r.tk (.same s56)).tk tkp, pairedM hN7 fun _ _ r => r.tk tkp, by rw [← Paired.len hL5]; exact c4, by rw [← Paired.len hN7]; exact d4⟩
      rw [show ([partV es "number" b, V.ref la] ++ [V.ref na] : List V) = [partV es "number" b, V.ref la, V.ref na] from rfl]
      generalize upd G7 l (.lst [partV es "number" b, .ref la, .ref na]) = G8 at *
      have nt : NoTup G8 l := fun xs h => by rw [hl8] at h; cases h
      obtain ⟨tl, tn⟩ := rd.thg nt
      refine ⟨_, rfl, l, l, _, _, _, rfl, hl8, (num_rd wf b).1.thg, tl, tn, fun H9 s9 => ?_⟩
      cases hbad : badT G8 (partV es "number" b) (.ref la) (.ref na) with
      | none =>
        refine ⟨rfl, _, rfl, iteT ⟨_, rfl, ?_⟩⟩
        obtain ⟨h, ls, ns, eh, hL, hN, hT, dr⟩ := rd.good nt hbad
        rw [eh] at hl8
        exact qy H9 l la na h ls ns (sH8.trans s9) nlH (s9 _ _ hl8) (hL.tk (.same s9)) (hN.tk (.same s9)) hT dr
      | some z =>
        refine ⟨rfl, _, rfl, iteF ?_⟩
        refine qn (fun h ls ns hT dr => ?_) _ (sH8.trans s9)
        obtain ⟨eh, hL, hN⟩ := rd.at hT
        rw [eh, drawn_ok hL hN dr] at hbad
        cases hbad
end
end L2.Bk
end
section
set_option Elab.async false
set_option linter.all false
set_option maxRecDepth 100000
set_option maxHeartbeats 4000000
/-! A term, bent. -/
namespace L2.Bk
open L2.My PySem PySem.Spec PyProof.Rows
abbrev sBt : Stmt := top 67
/-- numbers below n -/
def Nums (n : Nat) (xs : List V) : Prop := ∀ v ∈ xs, ∃ j : Nat, v = .int (j : Nat) ∧ j < n
theorem nums_nV {n : Nat} : ∀ {xs : List V}, Nums n xs → ∃ js : List Nat, xs = nV js ∧ ∀ j ∈ js, j < n
  | [], _ => ⟨[], rfl, fun j hj => by cases hj⟩
  | v :: r, h => by
    obtain ⟨js, e, hj⟩ := nums_nV (xs := r) fun u hu => h u (List.mem_cons_of_mem _ hu)
    obtain ⟨j, rfl, hjn⟩ := h v List.mem_cons_self
    refine ⟨j :: js, by rw [e]; rfl, fun i hi => ?_⟩
    rcases List.mem_cons.mp hi with rfl | hi
    · exact hjn
    · exact hj i hi
theorem nums_of {n : Nat} {js : List Nat} (h : ∀ j ∈ js, j < n) : Nums n (nV js) := fun v hv => by
  obtain ⟨j, hj, rfl⟩ := List.mem_map.mp hv
  exact ⟨j, rfl, h j hj⟩
theorem Nums.app {n : Nat} {xs ys : List V} (h : Nums n xs) (k : Nums n ys) : Nums n (xs ++ ys) := fun v hv => (List.mem_append.mp hv).elim (h v) (k v)
theorem Nums.cut {n : Nat} {xs : List V} {lo hi : Option Int} (h : Nums n xs) : Nums n (cutV xs lo hi) := fun v hv => h v (cut_mem hv)
theorem Nums.mono {n m : Nat} {xs : List V} (h : Nums n xs) (l : n ≤ m) : Nums m xs := fun v hv => by
  obtain ⟨j, e, hj⟩ := h v hv
  exact ⟨j, e, by omega⟩
theorem cut_lo (xs : List V) {n : Nat} (hn : n ≤ xs.length) : cutV xs none (some ((n : Nat) : Int)) = xs.take n := by
  unfold cutV
  rw [HT.sIx_nat]
  show (xs.drop 0).take (min n xs.length - 0) = _
  rw [List.drop_zero, Nat.sub_zero, Nat.min_eq_left hn]
theorem cut_hi (xs : List V) {n : Nat} (hn : n ≤ xs.length) : cutV xs (some ((n : Nat) : Int)) none = xs.drop n := by
  unfold cutV
  rw [HT.sIx_nat]
  show (xs.drop (min n xs.length)).take (xs.length - min n xs.length) = _
  rw [Nat.min_eq_left hn, List.take_of_length_le (by rw [List.length_drop]; exact Nat.le_refl _)]
def BtQ (P : Program) (w : World) (C : Addr) (B : BP) (b g : Addr) (es : List Ent) (L m : Nat) (Q : VK) (H : Hp) : Prop := ∀ H' es' (t' : Nat), BL (b :: B.foot) H H' → BoxAt H' b g → BookAt P w H' C B es' → es <+: es' → Fit (L + 1) es' → es'.length ≤ es.length + m + 1 → t' < es'.length → Q (.int (t' : Nat)) H'
def spBt (P : Program) (w : World) (C : Addr) (m : Nat) : Sp := fun vs H Q _ => ∃ (b g : Addr) (B : BP) (es : List Ent) (t L : Nat), vs = [.ref b, .ref B.b, .int (t : Nat), .int (m : Nat)] ∧ BoxAt H b g ∧ BookAt P w H C B es ∧ Sep B b g ∧ Fit L es ∧ L ≤ 390 ∧ t < es.length ∧ es.length + m < 29000 ∧ BtQ P w C B b g es L m Q H
/-- what may be called one step down -/
def spBtR (P : Program) (w : World) (C : Addr) : Nat → Sp
  | 0 => fun _ _ _ _ => False
  | m + 1 => spBt P w C m
section
variable {P : Program} {w : World} {K : PySem.W.Frag} {mg : Str → Option Value} {base : Heap} {C C0 C1 C2 : Addr}
abbrev nBt : List Str := ["box", "book", "term", "deep", "kind", "some", "more", "at"]
theorem scBt : FnScope nBt ["box", "book", "term", "deep"] (defScope sBt) := ⟨rfl, rfl, rfl, by decide +kernel, rfl, by decide +kernel, by decide +kernel⟩
theorem ok_bt {f : Addr} {fd : FuncData} {k m : Nat} (F : Fun K "_law_bent" "_law_bent" sBt f fd) (T : Tx mg) (c : BkC K C) (hmax : mg "max" = none) (cD : Cal P w K mg base (k + 3) "_law_draw" ["box", "menu"] spDraw) (cS : MthX P w K mg base C (k + 1) "size" ["self"] (spSize C)) (cP : MthX P w K mg base C (k + 4) "put" ["self", "kind", "parts"] (spPut P w C C0 C1)) (cK : MthX P w K mg base C (k + 4) "kind" ["self", "term"] (spTell P w C C2 rKind)) (cA : MthX P w K mg base C (k + 4) "parts" ["self", "term"] (spTell P w C C2 rParts)) (cU : Cal P w K mg base (k + 5) "_law_number" ["book", "number"] (spLn P w C))
    (cR : Cal P w K mg base (k + 5 + m) "_law_bent" ["box", "book", "term", "deep"] (spBtR P w C m)) : FnOk P w K mg base CX0 (k + 6 + m) f fd ["box", "book", "term", "deep"] (spBt P w C m) := by
  rw [show k + 6 + m = (k + 5 + m) + 1 by omega]
  refine F.ok scBt (fun vs H Q E h => ?_) (fun cdv A outer s H vs Q E hr h => ?_)
  · obtain ⟨b, g, B, es, t, L, rfl, _⟩ := h
    rfl
  · obtain ⟨b, g, B, es, t, L, rfl, hX, hB, sp, hf, hL, ht, hlm, q⟩ := h
    refine ⟨_, (pss_cons (ps_if (pt_or (pt_cmpR op_eq (pv 3) pe_int (nomark _)) (pw_or (pt_cmpR op_ne (pe_meth (pv 1) c.cls cK.m cK.F (hr.mono (by omega)) cK.b .nil pass_no (pa_cons (pv 2) pa_nil)) pe_str (nomark _)) (pw_or (pt_cmpR op_eq (pe_callB call_len_seq (by rfl) T.len_ PySem.boot_len (pa_cons (pe_meth (pv 1) c.cls cA.m cA.F (hr.mono (by omega)) cA.b .nil pass_no (pa_cons (pv 2) pa_nil)) pa_nil)) pe_int (nomark _)) (pw_or1 (pt_cmpR op_eq (pe_c cD hr (by omega) (by rfl) (pa_cons (pv 0) (pa_cons pe_int pa_nil))) pe_int (nomark _)))))) (pss_cons (ps_set (i := 4) scBt.nd rfl (Or.inl rfl) (pe_c cD hr (by omega) (by rfl) (pa_cons (pv 0) (pa_cons pe_int pa_nil)))) (pss_cons (ps_if (pt_and (pt_cmpR op_eq (pv 4) pe_int (nomark _)) (pw_and1 (pt_cmpR op_eq (pe_meth (pv 1) c.cls cK.m cK.F (hr.mono (by omega)) cK.b .nil pass_no (pa_cons (pv 2) pa_nil)) pe_str (nomark _)))) (pss_one (ps_ret (pe_c cU hr (by omega) (by rfl) (pa_cons (pv 1) (pa_cons (pe_callB (call_max2 rfl) (by rfl) hmax (by decide +kernel) (pa_cons pe_int (pa_cons (pe_op op_sub (pe_op op_add (pe_ix ix_tup (pe_meth (pv 1) c.cls cA.m cA.F (hr.mono (by omega)) cA.b .nil pass_no (pa_cons (pv 2) pa_nil)) pe_int (fun _ _ => rfl)) (pe_c cD hr (by omega) (by rfl) (pa_cons (pv 0) (pa_cons pe_int pa_nil)))) pe_int) pa_nil))) pa_nil))))) pss_nil) (pss_cons (ps_if (pt_cmpR op_eq (pv 4) pe_int (nomark _)) (pss_one (ps_ret (pe_meth (pv 1) c.cls cP.m cP.F (hr.mono (by omega)) cP.b .nil pass_no (pa_cons pe_str (pa_cons (pe_tup (pa_cons (pe_ix ix_list (pe_lst (pa_cons pe_str (pa_cons pe_str (pa_cons pe_str (pa_cons pe_str (pa_cons pe_str pa_nil)))))) (pe_c cD hr (by omega) (by rfl) (pa_cons (pv 0) (pa_cons pe_int pa_nil))) (fun _ _ => rfl)) pa_nil)) pa_nil))))) pss_nil) (pss_cons (ps_if (pt_and (pt_cmpR op_lt (pv 4) pe_int (nomark _)) (pw_and1 (pt_cmpR op_eq (pe_meth (pv 1) c.cls cK.m cK.F (hr.mono (by omega)) cK.b .nil pass_no (pa_cons (pv 2) pa_nil)) pe_str (nomark _)))) (pss_cons (ps_set (i := 5) scBt.nd rfl (Or.inl rfl) (pe_meth (pv 1) c.cls cA.m cA.F (hr.mono (by omega)) cA.b .nil pass_no (pa_cons (pv 2) pa_nil))) (pss_cons (ps_set (i := 6) scBt.nd rfl (Or.inl rfl) (pe_lst (pa_cons (pe_op op_catA (pv 5) (pe_tup (pa_cons (pe_c cD hr (by omega) (by rfl) (pa_cons (pv 0) (pa_cons (pe_meth0 (pv 1) c.cls cS.m cS.F (hr.mono (by omega)) cS.b .nil pass_no) pa_nil))) pa_nil))) (pa_cons (pe_slice sl_tupA (pv 5) (po_some pe_int) po_none) (pa_cons (pe_tupRevT rfl (by rfl) T.tuple_ (by rfl) T.rev_ (pv 5)) (pa_cons (pe_op op_catA (pv 5) (pe_slice sl_tupA (pv 5) po_none (po_some pe_int))) pa_nil)))))) (pss_one (ps_ret (pe_meth (pv 1) c.cls cP.m cP.F (hr.mono (by omega)) cP.b .nil pass_no (pa_cons pe_str (pa_cons (pe_ix ix_list (pv 6) (pe_c cD hr (by omega) (by rfl) (pa_cons (pv 0) (pa_cons pe_int pa_nil))) (fun _ _ => rfl)) pa_nil))))))) pss_nil) (pss_one (ps_ret (pe_c cD hr (by omega) (by rfl) (pa_cons (pv 0) (pa_cons (pe_meth0 (pv 1) c.cls cS.m cS.F (hr.mono (by omega)) cS.b .nil pass_no) pa_nil))))))))) pss_nil) (pss_cons (ps_set (i := 5) scBt.nd rfl (Or.inl rfl) (pe_meth (pv 1) c.cls cA.m cA.F (hr.mono (by omega)) cA.b .nil pass_no (pa_cons (pv 2) pa_nil))) (pss_cons (ps_set (i := 7) scBt.nd rfl (Or.inl rfl) (pe_c cD hr (by omega) (by rfl) (pa_cons (pv 0) (pa_cons (pe_callB call_len_seq (by rfl) T.len_ PySem.boot_len (pa_cons (pv 5) pa_nil)) pa_nil)))) (pss_one (ps_ret (pe_meth (pv 1) c.cls cP.m cP.F (hr.mono (by omega)) cP.b .nil pass_no (pa_cons pe_str (pa_cons (pe_op op_catA (pe_op op_catA (pe_slice sl_tupA (pv 5) po_none (po_some (pv 7))) (pe_tup (pa_cons (pe_c cR hr (by omega) (by rfl) (pa_cons (pv 0) (pa_cons (pv 1) (pa_cons (pe_ix ix_tup (pv 5) (pv 7) (fun _ _ => rfl)) (pa_cons (pe_op op_sub (pv 3) pe_int) pa_nil))))) pa_nil))) (pe_slice sl_tupA (pv 5) (po_some (pe_op op_add (pv 7) pe_int)) po_none)) pa_nil)))))))), ?_⟩
    have wf := hB.wf
    have hlen := hB.len
    obtain ⟨⟨k0, ks⟩, he⟩ : ∃ e, es[t]? = some e := ⟨_, List.getElem?_eq_getElem ht⟩
    have bm : b ∈ b :: B.foot := List.mem_cons_self
    have lift1 : ∀ {H1 H2 : Hp}, L2.My.BL [b] H1 H2 → BL (b :: B.foot) H1 H2 := fun s p o hp e => s p o (fun hm => hp (by rw [List.mem_singleton.mp hm]; exact bm)) e
    have lift2 : ∀ {H1 H2 : Hp}, BL B.foot H1 H2 → BL (b :: B.foot) H1 H2 := fun s p o hp e => s p o (fun hm => hp (List.mem_cons_of_mem _ hm)) e
    -- a put at the end
    have fin : ∀ {G : Hp} {es1 : List Ent} {e : Ent}, BL (b :: B.foot) H G → BoxAt G b g → BookAt P w G C B es1 → es <+: es1 → Fit (L + 1) es1 → es1.length ≤ es.length + m → Tiny (L + 1) e → PutQ P w C G B es1 e Q := fun {G es1 e} bl hX1 hB1 pre hf1 hl1 ti G2 es2 j bl2 hB2 pre2 hget hin hlen2 =>
      q G2 es2 j (bl.trans (lift2 bl2)) (box_ft hX1 bl2 sp.nb sp.ng) hB2 (pre.trans pre2) (hf1.nw (Nw.refl.put pre2 hget hin hlen2 ti) (Nat.le_refl _)) (by omega) (List.getElem?_eq_some_iff.mp hget).1
    have hf1 : Fit (L + 1) es := hf.mono (Nat.le_succ _)
    refine tt_use (t := tOr _ _) (fun c G => L2.My.BL [b] H G ∧ BoxAt G b g ∧ (c = false → (∃ n, m = n + 1) ∧ k0 = "row" ∧ ks ≠ [])) ?_ (fun hk => ?_)
    · rintro c G ⟨bl, hX1, hc⟩
      have hB1 := bk_box hB hX bl sp
      cases c with
      | true =>
        refine iteT ⟨_, rfl, b, g, 6, rfl, hX1, by decide, by decide, fun G2 kd bl2 hX2 kd0 kd6 => ?_⟩
        have hB2 := bk_box hB1 hX1 bl2 sp
        have bl02 := bl.trans bl2
        dsimp only [gName]
        refine seq_use (t := tIfS _ _ _) (fun σ G3 => σ = [some (.ref b), some (.ref B.b), some (.int (t : Nat)), some (.int (m : Nat)), some (.int kd), none, none, none] ∧ G3 = G2) ?_ (fun hrest => ?_)
        · rintro σ G3 ⟨rfl, rfl⟩
          refine ⟨_, rfl, rfl, _, rfl, ite2 (fun _ => ?_) (fun _ => ?_)⟩
          · refine ⟨_, rfl, B.b, B.dx, _, rfl, hB2.ins, rfl, by show 5 ≤ sizeLine; decide, fun l nl => ?_⟩
            have u := same_upd (o := HO.lst [.str "a", .str "tree", .str "A", .str "abcdefghijklm", .str ""]) nl
            have hl4 : (upd G3 l (.lst [.str "a", .str "tree", .str "A", .str "abcdefghijklm", .str ""])) l = some (.lst ((["a", "tree", "A", "abcdefghijklm", ""] : List Str).map V.str)) := upd_same
            generalize upd G3 l (.lst [.str "a", .str "tree", .str "A", .str "abcdefghijklm", .str ""]) = G5 at *
            refine ⟨_, rfl, b, g, 5, rfl, hX2.same u, by decide, by decide, fun G6 r bl6 hX6 m0 m1 => ?_⟩
            obtain ⟨r, rfl⟩ : ∃ n : Nat, r = n := ⟨r.toNat, by omega⟩
            have nlb := hX2.nb nl
            have hm : r < (["a", "tree", "A", "abcdefghijklm", ""] : List Str).length := by show r < 5; omega
            have hz : (["a", "tree", "A", "abcdefghijklm", ""] : List Str)[r]? = some (["a", "tree", "A", "abcdefghijklm", ""] : List Str)[r] := List.getElem?_eq_getElem hm
            have hzm := List.mem_of_getElem? hz
            have hzn : nameV (.str (["a", "tree", "A", "abcdefghijklm", ""] : List Str)[r]) = true := (by decide +kernel : ∀ z ∈ (["a", "tree", "A", "abcdefghijklm", ""] : List Str), nameV (.str z) = true) _ hzm
            generalize (["a", "tree", "A", "abcdefghijklm", ""] : List Str)[r] = z at *
            refine ⟨l, _, _, .str z, rfl, rfl, .of (bl6 _ _ (by simpa using nlb) hl4), atI_nat (j := r) (by rw [List.getElem?_map, hz]; rfl), by show 1 ≤ sizeLine; decide, fun p np => ?_⟩
            have u2 := same_upd (o := HO.tup [.str z]) np
            have hB6 := (bk_box (hB2.same u) (hX2.same u) bl6 sp).same u2
            have bl6' := lift1 (((bl02.trans (.same u)).trans bl6).trans (L2.My.BL.same u2))
            dsimp only [tNil]
            show spPut P w C C0 C1 [.ref B.b, .str "name", .ref p] _ _ _
            exact put_lets (z := "name") hB6 (due_name upd_same hzn) (by omega) (fin bl6' (hX6.same u2) hB6 (List.prefix_refl _) hf1 (by omega) .name)
          · dsimp only [tNext]
            refine seq_use (t := tIfS _ _ _) (fun σ G4 => σ = [some (.ref b), some (.ref B.b), some (.int (t : Nat)), some (.int (m : Nat)), some (.int kd), none, none, none] ∧ G4 = G3) ?_ (fun hrest => ?_)
            · rintro σ G4 ⟨rfl, rfl⟩
              refine ⟨_, rfl, _, rfl, B.b, B.dx, _, rfl, hB2.ins, rfl, B, _, es, rfl, hB2.kp, b, g, _, rfl, hX2, by omega, Nat.lt_of_le_of_lt (show ((es.length : Nat) : Int).natAbs ≤ 30000 by omega) (by decide), fun G6 r bl6 hX6 m0 m1 => ?_⟩
              obtain ⟨r, rfl⟩ : ∃ n : Nat, r = n := ⟨r.toNat, by omega⟩
              exact q G6 es r (lift1 (bl02.trans bl6)) hX6 (bk_box hB2 hX2 bl6 sp) (List.prefix_refl _) hf1 (by omega) (by omega)
            · refine ⟨_, rfl, _, _, rfl, rfl, _, rfl, ite2 (fun _ => ?_) (fun _ => hrest _ _ ⟨rfl, rfl⟩)⟩
              refine kind_t (i := 1) rfl hB2 (fun Q' q => ⟨_, rfl, q⟩) he ⟨rfl, _, rfl, ?_⟩
              rw [str_dec]
              by_cases hk0 : k0 = "row"
              rotate_left
              · rw [decide_eq_false hk0]
                exact iteF (hrest _ _ ⟨rfl, rfl⟩)
              rw [decide_eq_true hk0]
              subst hk0
              refine iteT ?_
              show tMeth C "parts" (spTell P w C C2 rParts) [] E0 (tVar 1) (tCons (tVar 2) tNil) _ _ _
              refine parts_t (i := 1) rfl hB2 (fun Q' q => ⟨_, rfl, q⟩) he fun p hp => ?_
              obtain ⟨o1, o2, o3⟩ := L2.Bk.row_ok (wf.ok t _ he) rfl
              obtain ⟨js, hjs⟩ := toNats fun i hi => (o3 i hi).1
              rw [hjs] at o1 o2 o3
              have hrow : ((("row" : Str), ks) : Ent) = rowE (nInt js) := by rw [o1]
              have hjl : js.length ≤ L := by
                have := (hf _ (List.mem_of_getElem? he)).1 (nInt js) hrow
                rw [List.length_map] at this
                exact this
              have hp : G3 p = some (.tup (nV js)) := by
                rw [hp, o1, List.map_map]
                show some (HO.tup ((nInt js).map V.int)) = _
                rw [nV_int]
              have hjn : ∀ j ∈ js, j < es.length := fun j hj => by
                have := o3 (j : Int) (List.mem_map.mpr ⟨j, hj, rfl⟩)
                omega
              have nums0 : Nums es.length (nV js) := nums_of hjn
              have hvl : (nV js).length = js.length := List.length_map _
              have l1 : ∀ n : Nat, n ≤ 800 → n ≤ sizeLine := fun n h => Nat.le_trans h (by decide)
              dsimp only [gName]
              -- more[0]
              refine ⟨_, rfl, _, rfl, _, rfl, B.b, B.dx, _, rfl, hB2.ins, rfl, B, _, es, rfl, hB2.kp, b, g, _, rfl, hX2, by omega, Nat.lt_of_le_of_lt (show ((es.length : Nat) : Int).natAbs ≤ 30000 by omega) (by decide), fun G6 r bl6 hX6 m0 m1 => ⟨by show 1 ≤ sizeLine; decide, fun pt npt => ?_⟩⟩
              obtain ⟨r, rfl⟩ : ∃ n : Nat, r = n := ⟨r.toNat, by omega⟩
              have u7 := same_upd (o := HO.tup [.int (r : Nat)]) npt
              have hpt := upd_same (H := G6) (a := pt) (o := HO.tup [.int (r : Nat)])
              have hB7 := (bk_box hB2 hX2 bl6 sp).same u7
              have hX7 := hX6.same u7
              have bl7 := (bl02.trans bl6).trans (L2.My.BL.same u7)
              have hp7 := u7 _ _ ((hX2.tk bl6) _ _ hp)
              generalize upd G6 pt (.tup [.int (r : Nat)]) = G7 at *
              refine catA_ref hp7 hpt (l1 _ (by rw [hvl]; show js.length + 1 ≤ 800; omega)) fun pa G8 s8 hpa => ?_
              -- more[1]
              refine ⟨_, rfl, 1, rfl, ?_⟩
              dsimp only [tNoPart]
              refine slc_ref (s8 _ _ hp7) fun pb G9 s9 hpb => ?_
              have s79 := s8.trans s9
              -- more[2]
              refine ⟨_, rfl, p, _, rfl, .of (s79 _ _ hp7), fun pc npc => ?_⟩
              have u10 := same_upd (o := HO.tup (nV js).reverse) npc
              have hpc := upd_same (H := G9) (a := pc) (o := HO.tup (nV js).reverse)
              generalize upd G9 pc (.tup (nV js).reverse) = G10 at *
              have s710 := s79.trans u10
              -- more[3]
              refine ⟨_, rfl, _, rfl, ?_⟩
              dsimp only [tNoPart]
              refine ⟨1, rfl, slc_ref (s710 _ _ hp7) fun pd0 G11 s11 hpd0 => ?_⟩
              have s711 := s710.trans s11
              have hcl := cut_len (xs := nV js) (lo := none) (hi := some 1)
              refine catA_ref (s711 _ _ hp7) hpd0 (l1 _ (by omega)) fun pd G12 s12 hpd => ⟨by show 4 ≤ sizeLine; decide, fun ml nml => ?_⟩
              have s712 := s711.trans s12
              have u13 := same_upd (o := HO.lst [.ref pa, .ref pb, .ref pc, .ref pd]) nml
              have hml := upd_same (H := G12) (a := ml) (o := HO.lst [.ref pa, .ref pb, .ref pc, .ref pd])
              have hB13 := (hB7.same s712).same u13
              have hX13 := (hX7.same s712).same u13
              have bl13 := (bl7.trans (L2.My.BL.same s712)).trans (L2.My.BL.same u13)
              have s1213 := s12.trans u13
              have nums1 : Nums es.length (nV js ++ [V.int (r : Nat)]) := nums0.app fun v hv => ⟨r, List.mem_singleton.mp hv, by omega⟩
              have nums2 : Nums es.length (cutV (nV js) (some 1) none) := nums0.cut
              have nums3 : Nums es.length (nV js).reverse := fun v hv => nums0 v (List.mem_reverse.mp hv)
              have nums4 : Nums es.length (nV js ++ cutV (nV js) none (some 1)) := nums0.app nums0.cut
              have four : ∀ x : Nat, x < 4 → ∃ (px : Addr) (xs : List V), ([.ref pa, .ref pb, .ref pc, .ref pd] : List V)[x]? = some (.ref px) ∧ (upd G12 ml (.lst [.ref pa, .ref pb, .ref pc, .ref pd])) px = some (.tup xs) ∧ Nums es.length xs ∧ xs.length ≤ L + 1 := fun x hx => by
                match x, hx with
                | 0, _ => exact ⟨pa, _, rfl, s1213 _ _ (s11 _ _ (u10 _ _ (s9 _ _ hpa))), nums1, by rw [List.length_append, hvl]; show js.length + 1 ≤ L + 1; omega⟩
                | 1, _ => exact ⟨pb, _, rfl, s1213 _ _ (s11 _ _ (u10 _ _ hpb)), nums2, by have := cut_len (xs := nV js) (lo := some 1) (hi := none); omega⟩
                | 2, _ => exact ⟨pc, _, rfl, s1213 _ _ (s11 _ _ hpc), nums3, by rw [List.length_reverse, hvl]; omega⟩
                | 3, _ =>
                  refine ⟨pd, _, rfl, u13 _ _ hpd, nums4, ?_⟩
                  have e1 : (cutV (nV js) none (some 1)).length ≤ 1 := by
                    unfold cutV
                    rw [List.length_take, show (some (1 : Int)) = some (((1 : Nat) : Int)) from rfl, HT.sIx_nat]
                    omega
                  rw [List.length_append, hvl]
                  omega
                | x + 4, hx => exact absurd hx (by omega)
              generalize upd G12 ml (.lst [.ref pa, .ref pb, .ref pc, .ref pd]) = G13 at *
              dsimp only [gName]
              have nlb13 : ml ∉ [b] := by
                have := hX13
                intro hm
                rw [List.mem_singleton.mp hm] at hml
                obtain ⟨_, _, _, _, _, _, e, _⟩ := this
                rw [e] at hml
                cases hml
              refine ⟨_, rfl, B.b, B.dx, _, rfl, hB13.ins, rfl, _, rfl, _, rfl, b, g, 4, rfl, hX13, by decide, by decide, fun G14 x bl14 hX14 x0 x1 => ?_⟩
              obtain ⟨x, rfl⟩ : ∃ n : Nat, x = n := ⟨x.toNat, by omega⟩
              obtain ⟨px, xs, hx, hpx, nx, lx⟩ := four x (by omega)
              obtain ⟨js', rfl, hjs'⟩ := nums_nV nx
              rw [List.length_map] at lx
              have hB14 := bk_box hB13 hX13 bl14 sp
              have hpx14 := (hX13.tk bl14) _ _ hpx
              refine ⟨ml, _, _, .ref px, rfl, rfl, .of (bl14 _ _ nlb13 hml), atI_nat (j := x) hx, ?_⟩
              dsimp only [tNil]
              show spPut P w C C0 C1 [.ref B.b, .str "row", .ref px] _ _ _
              refine put_lets (z := "row") hB14 (due_row (is := nInt js') (by rw [nV_int]; exact hpx14) (by rw [List.length_map]; omega) (fun i hi => ?_)) (by omega) (fin (lift1 (bl13.trans bl14)) hX14 hB14 (List.prefix_refl _) hf1 (by omega) (.row (by rw [List.length_map]; exact lx)))
              obtain ⟨j, hj, rfl⟩ := List.mem_map.mp hi
              have := hjs' j hj
              omega
        · refine ⟨_, rfl, rfl, _, rfl, ite2 (fun _ => ?_) (fun _ => hrest _ _ ⟨rfl, rfl⟩)⟩
          refine kind_t (i := 1) rfl hB2 (fun Q' q => ⟨_, rfl, q⟩) he ⟨rfl, _, rfl, ?_⟩
          rw [str_dec]
          by_cases hk0 : k0 = "number"
          rotate_left
          · rw [decide_eq_false hk0]
            exact iteF (hrest _ _ ⟨rfl, rfl⟩)
          rw [decide_eq_true hk0]
          subst hk0
          obtain ⟨i, rfl⟩ : ∃ i : Int, ks = [.inl i] := by
            have ok := wf.ok t _ he
            generalize e : (("number", ks) : Ent) = en at ok
            cases ok with
            | name x h => exact absurd (congrArg (fun e : Ent => e.1) e) (by show ¬ (("number" : Str) = "name"); decide +kernel)
            | num k h0 h1 => exact ⟨k, congrArg (fun e : Ent => e.2) e⟩
            | fresh k h0 => exact absurd (congrArg (fun e : Ent => e.1) e) (by show ¬ (("number" : Str) = "fresh"); decide +kernel)
            | row is hl h => exact absurd (congrArg (fun e : Ent => e.1) e) (by show ¬ (("number" : Str) = "row"); decide +kernel)
            | parts k is hk h => exact absurd (congrArg (fun e : Ent => e.1) e).symm (sz_ne _ hk).2.2
          have hi := (hf _ (List.mem_of_getElem? he)).2 i rfl
          have hi0 := (num_in wf he).1
          refine iteT ⟨_, rfl, parts_t (i := 1) rfl hB2 (fun Q' q => ⟨_, rfl, q⟩) he fun p hp => ⟨p, _, _, .int i, rfl, rfl, .of hp, atI_nat (j := 0) rfl, _, rfl, b, g, 3, rfl, hX2, by decide, by decide, fun G6 r bl6 hX6 m0 m1 => ⟨_, _, rfl, rfl, _, _, rfl, rfl, 0, _, rfl, ?_⟩⟩⟩
          have hB6 := bk_box hB2 hX2 bl6 sp
          have eM : 0 ≤ (if i + r - 1 > 0 then i + r - 1 else 0) ∧ (if i + r - 1 > 0 then i + r - 1 else 0) ≤ ((L + 1 : Nat) : Int) := by
            split <;> omega
          generalize (if i + r - 1 > 0 then i + r - 1 else 0) = M at *
          exact ⟨B, es, M, rfl, hB6, by omega, eM.1, Int.lt_of_le_of_lt (Int.le_trans eM.2 (show ((L + 1 : Nat) : Int) ≤ 391 by omega)) (by decide), .inr (fin (lift1 (bl02.trans bl6)) hX6 hB6 (List.prefix_refl _) hf1 (by omega) (.numb eM.2))⟩
      | false =>
        obtain ⟨⟨n, rfl⟩, rfl, hne⟩ := hc rfl
        refine iteF ?_
        dsimp only [tNext]
        show tMeth C "parts" (spTell P w C C2 rParts) [] E0 (tVar 1) (tCons (tVar 2) tNil) _ _ _
        refine parts_t (i := 1) rfl hB1 (fun Q' q => ⟨_, rfl, q⟩) he fun p hp => ?_
        obtain ⟨o1, o2, o3⟩ := L2.Bk.row_ok (wf.ok t _ he) rfl
        obtain ⟨js, hjs⟩ := toNats fun i hi => (o3 i hi).1
        rw [hjs] at o1 o2 o3
        have hrow : ((("row" : Str), ks) : Ent) = rowE (nInt js) := by rw [o1]
        have hjl : js.length ≤ L := by
          have := (hf _ (List.mem_of_getElem? he)).1 (nInt js) hrow
          rw [List.length_map] at this
          exact this
        have hp : G p = some (.tup (nV js)) := by
          rw [hp, o1, List.map_map]
          show some (HO.tup ((nInt js).map V.int)) = _
          rw [nV_int]
        have hjn : ∀ j ∈ js, j < es.length := fun j hj => by
          have := o3 (j : Int) (List.mem_map.mpr ⟨j, hj, rfl⟩)
          omega
        have hj0 : 0 < js.length := List.length_pos_iff.mpr fun z => hne (by rw [o1, z]; rfl)
        have nums0 : Nums es.length (nV js) := nums_of hjn
        have hvl : (nV js).length = js.length := List.length_map _
        have l1 : ∀ n : Nat, n ≤ 800 → n ≤ sizeLine := fun n h => Nat.le_trans h (by decide)
        dsimp only [gName]
        refine ⟨_, rfl, _, rfl, p, _, rfl, .inr (.of hp), b, g, _, rfl, hX1, by omega, Nat.lt_of_le_of_lt (show (((nV js).length : Nat) : Int).natAbs ≤ 400 by omega) (by decide), fun G2 a bl2 hX2 a0 a1 => ?_⟩
        obtain ⟨a, rfl⟩ : ∃ n : Nat, a = n := ⟨a.toNat, by omega⟩
        have ha : a < js.length := by omega
        have hB2 := bk_box hB1 hX1 bl2 sp
        have bl02 := bl.trans bl2
        have hp2 := (hX1.tk bl2) _ _ hp
        dsimp only [gName]
        refine ⟨_, rfl, B.b, B.dx, _, rfl, hB2.ins, rfl, _, rfl, ?_⟩
        dsimp only [tNoPart]
        refine ⟨_, rfl, (a : Nat), rfl, slc_ref hp2 fun p3 G3 s3 hp3 => ?_⟩
        rw [cut_lo _ (by omega)] at hp3
        have hB3 := hB2.same s3
        have hX3 := hX2.same s3
        have bl03 := bl02.trans (L2.My.BL.same s3)
        have hp3' := s3 _ _ hp2
        refine ⟨_, rfl, _, rfl, _, rfl, _, rfl, p, _, _, .int (js[a] : Nat), rfl, rfl, .of hp3', atI_nat (j := a) (by rw [List.getElem?_map, List.getElem?_eq_getElem ha]; rfl), _, rfl, _, _, rfl, rfl, ?_⟩
        have e1 : (((n + 1 : Nat) : Int) - 1) = (n : Nat) := by omega
        refine ⟨b, g, B, es, js[a], L, by show [V.ref b, V.ref B.b, V.int (js[a] : Nat), V.int (((n + 1 : Nat) : Int) - 1)] = _; rw [e1], hX3, hB3, sp, hf, hL, hjn _ (List.getElem_mem ha), by omega, fun G4 es4 t4 bl4 hX4 hB4 pre4 hf4 hl4 ht4 => ?_⟩
        have tk4 : TK G3 G4 := .bl bl4 fun p0 hp0 xs e => by
          rcases List.mem_cons.mp hp0 with rfl | hp0
          · exact hX3.nt xs e
          · exact hB3.notup _ hp0 xs e
        refine ⟨by show 1 ≤ sizeLine; decide, fun pt npt => ?_⟩
        have u5 := same_upd (o := HO.tup [.int (t4 : Nat)]) npt
        have hpt := upd_same (H := G4) (a := pt) (o := HO.tup [.int (t4 : Nat)])
        have hB5 := hB4.same u5
        have hX5 := hX4.same u5
        have tk5 := tk4.trans (TK.same u5)
        have bl05 : BL (b :: B.foot) H (upd G4 pt (.tup [.int (t4 : Nat)])) := ((lift1 bl03).trans bl4).trans (BL.same u5)
        generalize upd G4 pt (.tup [.int (t4 : Nat)]) = G5 at *
        have hn4 : es.length ≤ es4.length := pre4.length_le
        refine catA_ref (tk5 _ _ hp3) hpt (l1 _ (by rw [List.length_take]; show min a (nV js).length + 1 ≤ 800; omega)) fun p6 G6 s6 hp6 => ?_
        refine ⟨_, rfl, _, rfl, _, _, rfl, rfl, _, rfl, ?_⟩
        dsimp only [tNoPart]
        have e2 : (((a : Nat) : Int) + 1) = ((a + 1 : Nat) : Int) := rfl
        rw [e2]
        refine slc_ref (s6 _ _ (tk5 _ _ hp3')) fun p7 G7 s7 hp7 => ?_
        rw [cut_hi _ (by omega)] at hp7
        have hlx : ((nV js).take a ++ [V.int (t4 : Nat)]).length + ((nV js).drop (a + 1)).length = js.length := by
          rw [List.length_append, List.length_take, List.length_drop, List.length_singleton]
          omega
        refine catA_ref (s7 _ _ hp6) hp7 (l1 _ (by omega)) fun p8 G8 s8 hp8 => ?_
        have s58 := (s6.trans s7).trans s8
        have hB8 := hB5.same s58
        have nx : Nums es4.length (((nV js).take a ++ [V.int (t4 : Nat)]) ++ (nV js).drop (a + 1)) := by
          refine Nums.app (Nums.app (fun v hv => ?_) fun v hv => ⟨t4, List.mem_singleton.mp hv, ht4⟩) fun v hv => ?_
          · exact (nums0.mono hn4) v (List.mem_of_mem_take hv)
          · exact (nums0.mono hn4) v (List.mem_of_mem_drop hv)
        rw [← List.length_append] at hlx
        obtain ⟨js', ejs, hjs'⟩ := nums_nV nx
        rw [ejs] at hp8 hlx
        rw [List.length_map] at hlx
        dsimp only [tNil]
        show spPut P w C C0 C1 [.ref B.b, .str "row", .ref p8] _ _ _
        refine put_lets (z := "row") hB8 (due_row (is := nInt js') (by rw [nV_int]; exact hp8) (by rw [List.length_map]; omega) (fun i hi => ?_)) (by omega) (fin (bl05.trans (BL.same s58)) (hX5.same s58) hB8 pre4 hf4 (by omega) (.row (by rw [List.length_map]; omega)))
        obtain ⟨j, hj, rfl⟩ := List.mem_map.mp hi
        have := hjs' j hj
        omega
    · refine ⟨_, rfl, rfl, _, rfl, ?_⟩
      rw [dec_int]
      by_cases hm : m = 0
      · subst hm
        exact iteT (hk _ _ ⟨.refl, hX, fun h => nomatch h⟩)
      rw [show (((m : Nat) : Int) == 0) = false from beq_eq_false_iff_ne.mpr (by omega)]
      have hm' : ∃ n, m = n + 1 := ⟨m - 1, by omega⟩
      refine iteF (kind_t (i := 1) rfl hB (fun Q' q => ⟨_, rfl, q⟩) he ⟨rfl, _, rfl, ?_⟩)
      rw [str_dec]
      by_cases hk0 : k0 = "row"
      rotate_left
      · rw [decide_eq_false hk0]
        exact iteT (hk _ _ ⟨.refl, hX, fun h => nomatch h⟩)
      rw [decide_eq_true hk0]
      refine iteF (parts_t (i := 1) rfl hB (fun Q' q => ⟨_, rfl, q⟩) he fun p hp => ⟨p, _, rfl, .inr (.of hp), rfl, _, rfl, ?_⟩)
      rw [dec_int, List.length_map]
      by_cases hz : ks = []
      · subst hz
        exact iteT (hk _ _ ⟨.refl, hX, fun h => nomatch h⟩)
      have : 0 < ks.length := List.length_pos_iff.mpr hz
      rw [show (((ks.length : Nat) : Int) == 0) = false from beq_eq_false_iff_ne.mpr (by omega)]
      refine iteF ⟨_, rfl, b, g, 5, rfl, hX, by decide, by decide, fun G2 r bl2 hX2 r0 r1 => ⟨rfl, _, rfl, hk _ _ ⟨bl2, hX2, fun _ => ⟨hm', hk0, hz⟩⟩⟩⟩
end
end L2.Bk
end
section
set_option Elab.async false
set_option linter.all false
set_option maxRecDepth 100000
set_option maxHeartbeats 4000000
/-! What is told; the same parts; a def that may ask for repr is called. -/
namespace L2.Bk
open L2.My PySem PySem.Spec PyProof.Rows
abbrev sLt : Stmt := top 68
abbrev sSm : Stmt := top 69
structure CalX (P : Program) (w : World) (K : PySem.W.Frag) (mg : Str → Option Value) (base : Heap) (k : Nat) (x : Str) (ps : List Str) (sp : Sp) where
  f : Addr
  fd : FuncData
  G : FnOk P w K mg base (CX P w) k f fd ps sp
  kp : PySem.W.keepIn K (.ref f) = true
  g : mg x = some (.ref f)
  b : Binds K fd ps []
/-- a def that is called while nothing is being shown -/
structure CalG (P : Program) (w : World) (K : PySem.W.Frag) (mg : Str → Option Value) (base : Heap) (k : Nat) (x : Str) (ps : List Str) (sp : Sp) where
  f : Addr
  fd : FuncData
  G : FnOkG P w K mg base k f fd ps sp
  kp : PySem.W.keepIn K (.ref f) = true
  g : mg x = some (.ref f)
  b : Binds K fd ps []
theorem pe_callG {X : Cx} {k j : Nat} {x : Str} {ps : List Str} {sp : Sp} {p pos : Pos} {e : Expr} {es : List Expr} {t : TA} (c : CalG X.prog X.w X.K X.mg X.base k x ps sp) (hr : Room j X.A) (hj : k ≤ j) (hgd : X.A.guards = some []) (hg : Gl X x) (ha : PA X (e :: es) t) (hdb : (x == ("__debug__" : Str)) = false := by decide)
    (he : starEach (e :: es) X.env = (false, eval e X.env) :: starEach es X.env := by rfl) (hpl : (backTo pos (starEach es X.env)).any (·.1) = false := by rfl) : PE X (.Call (.Name x p) (e :: es) [] pos) (tCall sp [] E0 t) := by
  constructor
  intro pins s0 τ H0 R J hR
  apply wpAny_Call_Name_kw (ld_glob J hg c.g ?_ hdb)
  apply PySem.W.callWith_K (h₀ := X.base) J.ok.mod.kin c.kp (thn (ha.run pos pins s0 τ H0 _ J hR) ?_) he hpl
  rintro as s1 ⟨vs, H1, J1, rv, q⟩
  have q : sp vs H1 R E0 := by rw [← List.append_nil vs]; exact q
  have hn : (as ++ []).length = ps.length := by rw [List.append_nil, ← rv.length]; exact c.G.len _ _ _ _ q
  have hb := c.b s1 as J1.kIn hn
  rw [List.append_nil] at hb
  refine ⟨J1.kIn, wpAny_call ?_⟩
  refine codeAny_mono (c.G.run X.A X.stack s1 H1 ⟨as, []⟩ as vs R E0 (hr.mono hj) hgd J1.env0 hb rv q) ?_
  intro r s2 z
  match r, z with
  | .ok (.ret u), z => exact J1.after z
  | .ok .next, z => exact z.elim
  | .ok .brk, z => exact z.elim
  | .ok .cont, z => exact z.elim
  | .error _, z => exact z.elim
def spLt (P : Program) (w : World) (C CT : Addr) : Sp := fun vs H Q _ => ∃ (B : BP) (es : List Ent) (x dx la na : Addr) (h : Nat) (ls : List Lf) (ns : List Nd), vs = [.ref B.b, .ref x] ∧ BookAt P w H C B es ∧ es.length ≤ 20000 ∧ TreeAt H CT x dx la na h ls ns ∧ DrT h ls ns ∧ (∀ p ∈ [x, la, na], p ∉ B.foot) ∧
  ((∃ k ∈ lockL ls ns, (es.length : Nat) ≤ k) → ∀ H', Same H H' → Q (.str "NoTerm") H') ∧
  ((∀ k ∈ lockL ls ns, k < (es.length : Nat)) → ∀ H' es' t, BL B.foot H H' → BookAt P w H' C B es' → es <+: es' → TreeT es' t h ls ns → ((∃ t0, TreeT es t0 h ls ns) → es' = es) → es'.length ≤ es.length + 7500 → Nw 256 es es' → Q (.int (t : Nat)) H')
def spSm (K : PySem.W.Frag) (CT : Addr) : Sp := fun vs H Q _ => ∃ tv pv, vs = [tv, pv] ∧ ((tv = .non ∧ pv = .non ∧ Q (.bl true) H) ∨ ∃ x dx la na p la2 na2 h ls ns, tv = .ref x ∧ pv = .ref p ∧ TreeAt H CT x dx la na h ls ns ∧ H p = some (.lst [.int (h : Nat), .ref la2, .ref na2]) ∧ LvsAt H la2 ls ∧ NdsAt H na2 ns ∧ GTr h ls ns ∧ ∀ H', Same H H' → Q (.bl true) H')
theorem pts_ok {h : Nat} {ls : List Lf} {ns : List Nd} (g : GTr h ls ns) : Nice (dPt h ls ns) ∧ (dPt h ls ns).depth ≤ 40 ∧ (dPt h ls ns).bulk ≤ 306100 := by
  refine ⟨.lst (.cons (nice_h g.h8) (.cons (nice_lvs g.gl) (.cons (nice_nds g.gn) .nil))), ?_, ?_⟩
  · have h1 := dep_lvs ls
    have h2 := dep_nds ns
    simp only [dPt, PyData.depth, PyData.depthAll]
    omega
  · have h1 := short_tree (ds := []) (ls := ls) (ns := ns) (fun _ _ _ => trivial) g.gl g.gn g.ll g.nl
    simp only [dPt, PyData.bulk, PyData.bulkAll] at h1 ⊢
    omega
/-- the classes of the two errors that are told -/
structure ErT (K : PySem.W.Frag) (mg : Str → Option Value) (NT PE : Addr) : Prop where
  gN : mg "NoTerm" = some (.ref NT)
  gP : mg "PostError" = some (.ref PE)
  eN : PySem.W.exmOne K (.ref NT) (.ref NT) = some true
section
variable {P : Program} {w : World} {K : PySem.W.Frag} {mg : Str → Option Value} {base : Heap} {C CT NT PE : Addr}
theorem scLt : FnScope ["book", "tree", "found"] ["book", "tree"] (defScope sLt) := ⟨rfl, rfl, rfl, by decide +kernel, rfl, by decide +kernel, by decide +kernel⟩
theorem ok_lt {f : Addr} {fd : FuncData} {k : Nat} (F : Fun K "_law_told" "_law_told" sLt f fd) (M : ErT K mg NT PE) (cT : CalX P w K mg base (k + 6) "tree_term" ["book", "tree"] (spTt P w C CT NT)) : FnOk P w K mg base CX0 (k + 7) f fd ["book", "tree"] (spLt P w C CT) := by
  refine F.ok scLt (fun vs H Q E h => ?_) (fun cdv A outer s H vs Q E hr h => ?_)
  · obtain ⟨B, es, x, dx, la, na, h, ls, ns, rfl, _⟩ := h
    rfl
  · obtain ⟨B, es, x, dx, la, na, h, ls, ns, rfl, hB, hl, hT, d, hx, qe, q⟩ := h
    refine ⟨_, pss_cons (ps_set (i := 2) scLt.nd rfl (Or.inl rfl) pe_str) (pss_cons (ps_try_many (X := (cxOf CX0 P w K mg base ["book", "tree", "found"] "_law_told" (defScope sLt) f cdv A outer s H E).nox) (Wout := fun _ _ _ _ => False)
      (l := [(.ref NT, fun _ _ _ => tAsg (tC (.str "NoTerm")) (gName 2)), (.ref PE, fun _ _ _ => tAsg (tC (.str "other")) (gName 2))])
      (tb := fun W => tAsg (tCallS (spTt P w C CT NT) (WE W) (tCons (tVar 0) (tCons (tVar 1) tNil))) (gName 2))
      rfl rfl takes_none5 (fun W pn xe tk _ => ?_)
      (.cons ⟨rfl, rfl, .inl M.gN⟩ (fun a oe cls d pn hz hf => pss_one (ps_set (i := 2) scLt.nd rfl (Or.inl rfl) pe_str))
      (.cons ⟨rfl, rfl, .inl M.gP⟩ (fun a oe cls d pn hz hf => pss_one (ps_set (i := 2) scLt.nd rfl (Or.inl rfl) pe_str)) .nil)))
      (pss_one (ps_ret (pv 2)))), ?_⟩
    · exact pss_one (ps_set (i := 2) scLt.nd rfl (Or.inl rfl) (pe_callS cT.G (hr.mono (by omega)) (by rfl) cT.g cT.kp cT.b (fun σ => passAt tk σ) (pa_cons (pv 0) (pa_cons (pv 1) pa_nil))))
    · refine ⟨_, rfl, _, rfl, B, es, x, dx, la, na, h, ls, ns, rfl, hB, hl, hT, d, hx, fun hk H' s' => ?_, fun hk H' es' t bl hB' pre hT' same len nw => ?_⟩
      · exact ⟨true, M.eN, fun _ a ha => ⟨_, rfl, qe hk H' s'⟩, fun e => nomatch e⟩
      · exact ⟨_, rfl, q hk H' es' t bl hB' pre hT' same len nw⟩
theorem scSm : FnScope ["tree", "parts"] ["tree", "parts"] (defScope sSm) := ⟨rfl, rfl, rfl, by decide +kernel, rfl, by decide +kernel, by decide +kernel⟩
theorem ok_sm {f : Addr} {fd : FuncData} {k : Nat} (F : Fun K "_law_same" "_law_same" sSm f fd) (T : Tx mg) (ct : TrC K CT) : FnOkG P w K mg base (k + 1) f fd ["tree", "parts"] (spSm K CT) := by
  refine fun_okG F scSm (fun vs H Q E h => ?_) (fun cdv A outer s H vs Q E hr hgd h => ?_)
  · obtain ⟨tv, pv, rfl, _⟩ := h
    rfl
  · obtain ⟨tv, pv', rfl, q⟩ := h
    have hrp : CallR (cxOf CX0 P w K mg base ["tree", "parts"] "_law_same" (defScope sSm) f cdv A outer s H E).nox (.builtin "repr") (rRepr K) := call_repr hgd hr.units
    refine ⟨_, (pss_cons (ps_if (pt_or (pt_cmpR op_isN (pv 1) pe_non (nomark _)) (pw_or1 (pt_cmpR op_isN (pv 0) pe_non (nomark _)))) (pss_one (ps_ret (pe_and (pe_cmpR op_isN (pv 1) pe_non (nomark _)) (pe_one (pe_cmpR op_isN (pv 0) pe_non (nomark _)))))) pss_nil) (pss_one (ps_ret (pe_cmpR op_eq (pe_callB hrp (by rfl) T.repr_ (by decide +kernel) (pa_cons (pe_lst (pa_cons (pe_fld (pv 0) rfl) (pa_cons (pe_fld (pv 0) rfl) (pa_cons (pe_fld (pv 0) rfl) pa_nil)))) pa_nil)) (pe_callB hrp (by rfl) T.repr_ (by decide +kernel) (pa_cons (pv 1) pa_nil)) (nomark _))))), ?_⟩
    rcases q with ⟨rfl, rfl, q⟩ | ⟨x, dx, la, na, p, la2, na2, h, ls, ns, rfl, rfl, ⟨hx, hL, hN⟩, hp, hL2, hN2, gt, q⟩
    · refine ⟨_, rfl, rfl, _, rfl, iteT ⟨_, rfl, rfl, _, rfl, iteT ⟨_, rfl, rfl, q⟩⟩⟩
    · obtain ⟨n1, n2, n3⟩ := pts_ok gt
      refine ⟨_, rfl, rfl, _, rfl, iteF ⟨_, rfl, rfl, _, rfl, iteF ?_⟩⟩
      refine ⟨_, rfl, x, CT, dx, _, _, rfl, hx, ct.cls, ct.na _ (by simp), rfl, _, rfl, x, CT, dx, _, _, rfl, hx, ct.cls, ct.na _ (by simp), rfl, _, rfl, x, CT, dx, _, _, rfl, hx, ct.cls, ct.na _ (by simp), rfl, by show 3 ≤ sizeLine; decide, fun l nl => ?_⟩
      have s1 := same_upd (o := HO.lst [.int (h : Nat), .ref la, .ref na]) nl
      refine ⟨l, dPt h ls ns, rfl, dpPt upd_same (hL.tk (.same s1)) (hN.tk (.same s1)), n1, n2, n3, _, rfl, p, dPt h ls ns, rfl, dpPt (s1 _ _ hp) (hL2.tk (.same s1)) (hN2.tk (.same s1)), n1, n2, n3, rfl, ?_⟩
      rw [decide_eq_true rfl]
      exact q _ s1
end
end L2.Bk
end
section
set_option Elab.async false
set_option linter.all false
set_option maxRecDepth 100000
set_option maxHeartbeats 4000000
/-! The law. -/
namespace L2.Bk
open L2.My PySem PySem.Spec PyProof.Rows
abbrev sLaw : Stmt := top 70
def spLaw (K : PySem.W.Frag) : Sp := fun vs H Q _ => ∃ (a : Addr) (ns : List Int), vs = [.ref a] ∧ SqL K H a (ns.map V.int) ∧ ∀ H', Q (.bl true) H'
theorem lock_lt {es : List Ent} {n : Int} (wf : WF n es) {t h : Nat} {ls : List Lf} {ns : List Nd} (x : TreeT es t h ls ns) : ∀ k ∈ lockL ls ns, k < (es.length : Nat) := fun k hk => by
  obtain ⟨a, b, c, d, is, js, x1, x2, x3, x4, x5, x6, x7⟩ := x
  unfold lockL at hk
  rcases List.mem_append.mp hk with hk | hk
  · obtain ⟨p, hp, rfl⟩ := List.mem_map.mp hk
    obtain ⟨l, hl3, e⟩ := List.mem_filterMap.mp hp
    obtain rfl : l = some p := e
    obtain ⟨i, hi⟩ := List.getElem?_of_mem hl3
    obtain ⟨j, _, u, r1, r2⟩ := L2.My.Paired.at x5 hi
    exact ((row_in wf r1).2 p.2 (by simp)).2
  · obtain ⟨n', hn, rfl⟩ := List.mem_map.mp hk
    obtain ⟨i, hi⟩ := List.getElem?_of_mem hn
    obtain ⟨j, _, ua, ub, uc, ks, r1, _⟩ := L2.My.Paired.at x7 hi
    exact ((row_in wf r1).2 n'.2.1 (by simp)).2
/-- what == of books is -/
structure EqB (P : Program) (w : World) (K : PySem.W.Frag) (mg : Str → Option Value) (base : Heap) (k : Nat) (C : Addr) where
  f : Addr
  fd : FuncData
  F : FnOk P w K mg base CX0 k f fd ["self", "other"] (spEqB P w K C)
  hs : PySem.W.findIn K (.ref C) "__eq__" = some (some (.ref f))
  hf : PySem.W.isFn K (.ref f) = true
  b : Binds K fd ["self", "other"] []
  nf : PySem.W.notFirst K C (.ref C) = true
theorem fit_of {L M : Nat} {es es' : List Ent} (h : Fit L es) (n : Nw 256 es es') (l : L ≤ M) (m : 256 ≤ M) : Fit M es' := (h.mono l).nw n m
section
variable {P : Program} {w : World} {K : PySem.W.Frag} {mg : Str → Option Value} {base : Heap} {C C0 C1 CT BT NT : Addr}
abbrev nLaw : List Str := ["script", "box", "book", "turn", "drawn", "size", "wild", "parts", "worst", "tree", "before", "told", "term", "k", "other", "due", "found", "one"]
theorem scLaw : FnScope nLaw ["script"] (defScope sLaw) := ⟨rfl, rfl, rfl, by decide +kernel, rfl, by decide +kernel, by decide +kernel⟩
theorem ok_law {f : Addr} {fd : FuncData} {k : Nat} (F : Fun K "law" "law" sLaw f fd) (T : Tx mg) (hmax : mg "max" = none) (c : BkC K C) (ci : BkI K C) (ct : TrC K CT) (R : MkT P w K mg base (k + 5) CT BT) (eB : EqB P w K mg base (k + 1) C)
    (cX : Cal P w K mg base (k + 1) "_law_box" ["script"] (spBox K)) (cD : Cal P w K mg base (k + 3) "_law_draw" ["box", "menu"] spDraw) (cTR : Cal P w K mg base (k + 5) "_law_tree" ["box", "most"] spTr) (cBK : Cal P w K mg base (k + 5) "_law_book" ["box"] (spBk P w C)) (cLK : Cal P w K mg base (k + 4) "_law_locks" ["box", "parts", "size"] spLk)
    (cLT : Cal P w K mg base (k + 7) "_law_told" ["book", "tree"] (spLt P w C CT)) (cLI : Cal P w K mg base (k + 6) "_law_items" ["book", "parts"] (spLi P w C)) (cTO : Cal P w K mg base (k + 7) "tree_of" ["book", "term"] (spTo P w C CT)) (cTT : CalX P w K mg base (k + 6) "tree_term" ["book", "tree"] (spTt P w C CT NT)) (cBT : Cal P w K mg base (k + 10) "_law_bent" ["box", "book", "term", "deep"] (spBt P w C 4)) (cRD : Cal P w K mg base (k + 7) "_law_read" ["book", "term"] (spRd P w C)) (cSm : CalG P w K mg base (k + 1) "_law_same" ["tree", "parts"] (spSm K CT))
    (cS : MthX P w K mg base C (k + 1) "size" ["self"] (spSize C)) (cP : MthX P w K mg base C (k + 4) "put" ["self", "kind", "parts"] (spPut P w C C0 C1)) (cC : MthX P w K mg base C (k + 3) "copy" ["self"] (spCopy P w C)) : FnOkG P w K mg base (k + 12) f fd ["script"] (spLaw K) := by
  refine fun_okG F scLaw (fun vs H Q E h => ?_) (fun cdv A outer s H vs Q E hr hgd h => ?_)
  · obtain ⟨a, ns, rfl, _⟩ := h
    rfl
  · obtain ⟨a, ns, rfl, hS, q⟩ := h
    refine ⟨_, (pss_cons (ps_set (i := 1) scLaw.nd rfl (Or.inl rfl) (pe_c cX hr (by omega) (by rfl) (pa_cons (pv 0) pa_nil))) (pss_cons (ps_set (i := 2) scLaw.nd rfl (Or.inl rfl) (pe_c cBK hr (by omega) (by rfl) (pa_cons (pv 1) pa_nil))) (pss_cons (ps_for PassesOwn.never rfl (pi_range1 (by rfl) T.range_ (pa_cons pe_int pa_nil)) (pg_name (i := 3) scLaw.nd rfl (Or.inl rfl)) (pss_cons (ps_set (i := 4) scLaw.nd rfl (Or.inl rfl) (pe_c cTR hr (by omega) (by rfl) (pa_cons (pv 1) (pa_cons (pe_ifExp (pt_cmpR op_eq (pe_c cD hr (by omega) (by rfl) (pa_cons (pv 1) (pa_cons pe_int pa_nil))) pe_int (nomark _)) pe_int pe_int) pa_nil)))) (pss_cons (ps_set (i := 5) scLaw.nd rfl (Or.inl rfl) (pe_meth0 (pv 2) c.cls cS.m cS.F (hr.mono (by omega)) cS.b .nil pass_no)) (pss_cons (ps_set (i := 6) scLaw.nd rfl (Or.inl rfl) (pe_cmpR op_eq (pe_c cD hr (by omega) (by rfl) (pa_cons (pv 1) (pa_cons pe_int pa_nil))) pe_int (nomark _))) (pss_cons (ps_set (i := 7) scLaw.nd rfl (Or.inl rfl) (pe_c cLK hr (by omega) (by rfl) (pa_cons (pv 1) (pa_cons (pv 4) (pa_cons (pe_ifExp (pt_val (pv 6)) (pe_op op_add (pv 5) pe_int) (pv 5)) pa_nil))))) (pss_cons (ps_set (i := 8) scLaw.nd rfl (Or.inl rfl) (pe_callB (cr_max rfl) (by rfl) hmax (by decide +kernel) (pa_cons (pe_op op_cat (pe_op op_cat (pe_lst (pa_cons (pe_un un_neg pe_int) pa_nil)) (pe_lc (own := [("one", 17)]) (g := gName 17) (te := tOp (rIxT K) (tVar 17) (tC (.int 1))) (tt := tTest (tOp rNotN (tVar 17) (tC .non))) rfl scLaw.nd (pi_tup (pe_ix ix_list (pv 7) pe_int (fun _ _ => rfl))) (blkOk_by (N := nLaw) (sc := defScope sLaw) (by decide +kernel)) (fun _ _ _ _ _ => pg_name (i := 17) scLaw.nd rfl (Or.inl rfl)) (fun _ _ _ _ _ => (pts_one (pt_cmpR op_notN (pv 17) pe_non (nomark _)))) (fun _ _ _ _ _ => (pe_ix ix_tup (pv 17) pe_int (fun _ _ => rfl))))) (pe_lc (own := [("one", 17)]) (g := gName 17) (te := tOp (rIxT K) (tVar 17) (tC (.int 1))) rfl scLaw.nd (pi_tup (pe_ix ix_list (pv 7) pe_int (fun _ _ => rfl))) (blkOk_by (N := nLaw) (sc := defScope sLaw) (by decide +kernel)) (fun _ _ _ _ _ => pg_name (i := 17) scLaw.nd rfl (Or.inl rfl)) (fun _ _ _ _ _ => pts_nil) (fun _ _ _ _ _ => (pe_ix ix_tup (pv 17) pe_int (fun _ _ => rfl))))) pa_nil))) (pss_cons (ps_set (i := 9) scLaw.nd rfl (Or.inl rfl) (pe_make R.M R.F (hr.mono (by omega)) (by rfl) R.g R.b .nil pass_no (pa_cons (pe_ix ix_list (pv 7) pe_int (fun _ _ => rfl)) (pa_cons (pe_ix ix_list (pv 7) pe_int (fun _ _ => rfl)) (pa_cons (pe_ix ix_list (pv 7) pe_int (fun _ _ => rfl)) pa_nil))))) (pss_cons (ps_set (i := 10) scLaw.nd rfl (Or.inl rfl) (pe_meth0 (pv 2) c.cls cC.m cC.F (hr.mono (by omega)) cC.b .nil pass_no)) (pss_cons (ps_set (i := 11) scLaw.nd rfl (Or.inl rfl) (pe_c cLT hr (by omega) (by rfl) (pa_cons (pv 2) (pa_cons (pv 9) pa_nil)))) (pss_one (ps_if (pt_cmpR op_ge (pv 8) (pv 5) (nomark _)) (pss_one (ps_if (pt_or (pt_cmpR op_ne (pv 11) pe_str (nomark _)) (pw_or1 (pt_not (pt_cmpR (op_eqO (C := C) eB.F (hr.mono (by omega)) eB.hs eB.hf eB.b pass0) (pv 2) (pv 10) (nomark _))))) (pss_one (ps_ret pe_bl)) pss_nil)) (pss_cons (ps_set (i := 12) scLaw.nd rfl (Or.inl rfl) (pe_meth (pv 2) c.cls cP.m cP.F (hr.mono (by omega)) cP.b .nil pass_no (pa_cons pe_str (pa_cons (pe_tupleOf (by rfl) T.tuple_ (pe_c cLI hr (by omega) (by rfl) (pa_cons (pv 2) (pa_cons (pv 7) pa_nil)))) pa_nil)))) (pss_cons (ps_if (pt_or (pt_val (pe_callB call_isTh (by rfl) T.isi (by decide +kernel) (pa_cons (pv 11) (pa_cons (pe_bltn (v := .ty "bool") (u := .type "bool") (by rfl) T.bool_ (by decide +kernel) rfl) pa_nil)))) (pw_or (pt_cmpR op_ne (pv 11) (pv 12) (nomark _)) (pw_or1 (pt_not (pt_val (pe_callG cSm hr (by omega) hgd (by rfl) (pa_cons (pe_c cTO hr (by omega) (by rfl) (pa_cons (pv 2) (pa_cons (pv 12) pa_nil))) (pa_cons (pv 7) pa_nil)))))))) (pss_one (ps_ret pe_bl)) pss_nil) (pss_one (ps_for PassesOwn.never rfl (pi_range1 (by rfl) T.range_ (pa_cons pe_int pa_nil)) (pg_name (i := 13) scLaw.nd rfl (Or.inl rfl)) (pss_cons (ps_set (i := 14) scLaw.nd rfl (Or.inl rfl) (pe_c cBT hr (by omega) (by rfl) (pa_cons (pv 1) (pa_cons (pv 2) (pa_cons (pv 12) (pa_cons pe_int pa_nil)))))) (pss_cons (ps_set (i := 15) scLaw.nd rfl (Or.inl rfl) (pe_c cRD hr (by omega) (by rfl) (pa_cons (pv 2) (pa_cons (pv 14) pa_nil)))) (pss_cons (ps_set (i := 16) scLaw.nd rfl (Or.inl rfl) (pe_c cTO hr (by omega) (by rfl) (pa_cons (pv 2) (pa_cons (pv 14) pa_nil)))) (pss_one (ps_if (pt_or (pt_not (pt_val (pe_callG cSm hr (by omega) hgd (by rfl) (pa_cons (pv 16) (pa_cons (pv 15) pa_nil))))) (pw_or1 (pt_and (pt_cmpR op_notN (pv 16) pe_non (nomark _)) (pw_and1 (pt_cmpR op_ne (pe_call cTT.G (hr.mono (by omega)) (by rfl) cTT.g cTT.kp cTT.b .nil pass_no (pa_cons (pv 2) (pa_cons (pv 16) pa_nil))) (pv 14) (nomark _)))))) (pss_one (ps_ret pe_bl)) pss_nil)))))))))))))))))))) (pss_one (ps_ret pe_bl))))), ?_⟩
    refine ⟨_, rfl, a, ns, rfl, hS, fun H1 b g s1 hX1 => ?_⟩
    try dsimp only [gName]
    refine ⟨_, rfl, b, g, rfl, hX1, fun H2 B es0 bl2 hX2 hB2 hfr l1 l23 hf0 => ?_⟩
    have sp : Sep B b g := ⟨fun hm => hX1.nb (hfr b hm) rfl, fun hm => hX1.ng (hfr g hm) rfl⟩
    try dsimp only [gName]
    refine ⟨2, rfl, by decide, by decide, ?_⟩
    refine for_it (walk_range (lo := 0)) (fun i σ G => ∃ (y3 y4 y5 y6 y7 y8 y9 y10 y11 y12 y13 y14 y15 y16 : Option V) (es : List Ent), σ = [some (.ref a), some (.ref b), some (.ref B.b), y3, y4, y5, y6, y7, y8, y9, y10, y11, y12, y13, y14, y15, y16, none] ∧ BoxAt G b g ∧ BookAt P w G C B es ∧ 1 ≤ es.length ∧ es.length ≤ 23 + 8000 * i ∧ Fit (270 + 10 * i) es) ⟨_, _, _, _, _, _, _, _, _, _, _, _, _, _, es0, rfl, hX2, hB2, l1, by omega, hf0.mono (by decide)⟩ (fun i σ G _ _ => trivial) ?_ ?_
    · rintro i y σ G G' hi ⟨y3, y4, y5, y6, y7, y8, y9, y10, y11, y12, y13, y14, y15, y16, es, rfl, hX3, hB3, h1, h2, hf⟩ ⟨rfl, rfl⟩
      have hi2 : i < 2 := by omega
      try dsimp only [gName]
      refine seq_use (t := tAsg _ _) (fun σ G4 => ∃ (p la na : Addr) (h : Nat) (ls : List Lf) (ns : List Nd), σ = [some (.ref a), some (.ref b), some (.ref B.b), some (.int (0 + (i : Nat))), some (.ref p), y5, y6, y7, y8, y9, y10, y11, y12, y13, y14, y15, y16, none] ∧ BoxAt G4 b g ∧ BookAt P w G4 C B es ∧ p ≠ b ∧ G4 p = some (.lst [.int (h : Nat), .ref la, .ref na]) ∧ LvsAt G4 la ls ∧ NdsAt G4 na ns ∧ DrT h ls ns) ?_ (fun hrest => ?_)
      rotate_left
      · refine ⟨_, rfl, _, rfl, b, g, 40, rfl, hX3, by decide, by decide, fun G4 r bl4 hX4 r0 r1 => ⟨rfl, _, rfl, ?_⟩⟩
        have hB4 := bk_box hB3 hX3 bl4 sp
        refine ite2 (fun _ => ?_) (fun _ => ?_)
        · exact ⟨b, g, 8, rfl, hX4, by decide, fun G5 p la na h ls ns bl5 hX5 np hp hL hN d => hrest _ _ ⟨p, la, na, h, ls, ns, rfl, hX5, bk_box hB4 hX4 bl5 sp, hX4.nb np, hp, hL, hN, d⟩⟩
        · exact ⟨b, g, 4, rfl, hX4, by decide, fun G5 p la na h ls ns bl5 hX5 np hp hL hN d => hrest _ _ ⟨p, la, na, h, ls, ns, rfl, hX5, bk_box hB4 hX4 bl5 sp, hX4.nb np, hp, hL, hN, d⟩⟩
      rintro σ G4 ⟨p, la, na, h, ls, ns, rfl, hX4, hB4, npb, hp, hL, hN, d⟩
      try dsimp only [gName]
      refine ⟨_, rfl, B.b, B.dx, _, rfl, hB4.ins, rfl, B, _, es, rfl, hB4.kp, ?_⟩
      refine ⟨_, rfl, b, g, 4, rfl, hX4, by decide, by decide, fun G5 r bl5 hX5 r0 r1 => ⟨rfl, ?_⟩⟩
      have hB5 := bk_box hB4 hX4 bl5 sp
      have tk5 := hX4.tk bl5
      have hp5 := bl5 _ _ (by simpa using npb) hp
      generalize decide (V.int r = V.int 0) = wild
      try dsimp only [gName]
      refine seq_use (t := tAsg _ _) (fun σ G6 => ∃ (p4 p : Addr) (la na : Addr) (h : Nat) (ls : List Lf) (ns : List Nd), σ = [some (.ref a), some (.ref b), some (.ref B.b), some (.int (0 + (i : Nat))), some (.ref p4), some (.int (es.length : Nat)), some (.bl wild), some (.ref p), y8, y9, y10, y11, y12, y13, y14, y15, y16, none] ∧ BoxAt G6 b g ∧ BookAt P w G6 C B es ∧ p ∉ b :: B.foot ∧ G6 p = some (.lst [.int (h : Nat), .ref la, .ref na]) ∧ LvsAt G6 la ls ∧ NdsAt G6 na ns ∧ DrT h ls ns) ?_ (fun hrest => ?_)
      rotate_left
      · have lk : ∀ N : Nat, 0 < N → N ≤ 60000 → spLk [.ref b, .ref p, .int (N : Nat)] G5 (fun v H1 => gName 7 v [some (.ref a), some (.ref b), some (.ref B.b), some (.int (0 + (i : Nat))), some (.ref p), some (.int (es.length : Nat)), some (.bl wild), y7, y8, y9, y10, y11, y12, y13, y14, y15, y16, none] H1 _) E0 := fun N n0 n1 =>
          ⟨b, g, p, la, na, h, ls, ns, N, rfl, hX5, hp5, npb, hL.tk tk5, hN.tk tk5, d, n0, n1, fun G6 p' la' na' ls' ns' bl6 hX6 np' hp' hL' hN' d' hk => hrest _ _ ⟨p, p', la', na', h, ls', ns', rfl, hX6, bk_box hB5 hX5 bl6 sp, fun hm => by
            rcases List.mem_cons.mp hm with e | hm
            · exact hX5.nb np' e
            · exact foot_there hB5 hm np', hp', hL', hN', d'⟩⟩
        refine ⟨_, rfl, _, rfl, _, rfl, _, rfl, ?_⟩
        cases wild with
        | true => exact iteT ⟨_, rfl, _, _, rfl, rfl, lk (es.length + 2) (by omega) (by omega)⟩
        | false => exact iteF ⟨_, rfl, lk es.length (by omega) (by omega)⟩
      clear hL hN d hp hp5 hX4 hX5 hB4 hB5 tk5 bl5
      rintro σ G6 ⟨p4, p, la, na, h, ls, ns, rfl, hX6, hB6, npf, hp, hL, hN, d⟩
      have npb : p ≠ b := fun e => npf (by rw [e]; exact List.mem_cons_self)
      have npB : p ∉ B.foot := fun hm => npf (List.mem_cons_of_mem _ hm)
      obtain ⟨lv, hla, hlp⟩ := id hL
      obtain ⟨wv, hna, hnp⟩ := id hN
      have hlv := Paired.len hlp
      have hwv := Paired.len hnp
      have l256 := d.l256
      have hnl := d.nl
      try dsimp only [gName]
      refine seq_use (t := tAsg _ _) (fun σ G => ∃ m : Int, σ = [some (.ref a), some (.ref b), some (.ref B.b), some (.int (0 + (i : Nat))), some (.ref p4), some (.int (es.length : Nat)), some (.bl wild), some (.ref p), some (.int m), y9, y10, y11, y12, y13, y14, y15, y16, none] ∧ Same G6 G ∧ (m = -1 ∨ m ∈ lockL ls ns) ∧ ∀ k ∈ lockL ls ns, k ≤ m) ?_ (fun hrest => ?_)
      rotate_left
      · refine ⟨_, rfl, by show 1 ≤ sizeLine; decide, fun l0 nl0 => ?_⟩
        have u0 := same_upd (o := HO.lst [.int (-1)]) nl0
        have hl0 := upd_same (H := G6) (a := l0) (o := HO.lst [.int (-1)])
        show tLc _ _ _ _ _ _ (upd G6 l0 (.lst [.int (-1)])) _
        generalize upd G6 l0 (.lst [.int (-1)]) = G7 at *
        refine ⟨_, rfl, p, _, _, .ref la, rfl, rfl, .of (u0 _ _ hp), atI_nat (j := 1) rfl, la, rfl, ⟨_, .of (u0 _ _ hla)⟩, fun D nD => ?_⟩
        refine lc_it (walk_tup (xs := lv)) (tt := tTest (tOp rNotN (tVar 17) (tC .non))) (te := tOp (rIxT K) (tVar 17) (tC (.int 1))) (fun i G => Same G7 G ∧ G D = some (.lst (((ls.take i).filterMap id).map fun q => V.int q.2))) ⟨same_upd nD, upd_same⟩ (fun i G _ hG => .of (hG.1 _ _ (u0 _ _ hla))) ?_ ?_
        · rintro i y G G' hi ⟨sm, hD⟩ ⟨rfl, hy⟩
          obtain ⟨l, hl2, hlf⟩ := Paired.at' hlp hy
          refine ⟨rfl, _, rfl, rfl, _, rfl, ?_⟩
          rw [nonN, lf_non hlf, take_snoc hl2, List.filterMap_append, List.map_append]
          cases l with
          | none => exact iteF ⟨sm, by rw [hD]; simp⟩
          | some pr =>
            obtain ⟨xa, rfl, hxa⟩ := hlf
            refine iteT ⟨_, rfl, xa, _, _, .int pr.2, rfl, rfl, .of (sm _ _ (u0 _ _ hxa)), atI_nat (j := 1) rfl, _, hD, ?_, same_put sm nD, ?_⟩
            · rw [List.length_map]
              have := List.length_filterMap_le id (ls.take i)
              rw [List.length_take] at this
              exact Nat.lt_of_le_of_lt (show ((ls.take i).filterMap id).length ≤ 256 by omega) (by decide)
            · rw [upd_same]; simp
        rintro G8 ⟨s8, hD⟩
        rw [hlv, List.take_length] at hD
        have hlen : (((ls.filterMap id).map fun q => V.int q.2).length) ≤ 256 := by
          rw [List.length_map]
          exact Nat.le_trans (List.length_filterMap_le _ _) l256
        refine ⟨l0, D, _, _, rfl, rfl, s8 _ _ hl0, hD, Nat.le_trans (show _ ≤ 257 by simp only [List.length_singleton]; omega) (by decide), fun La nLa => ?_⟩
        have uA := same_upd (o := HO.lst ([V.int (-1)] ++ (ls.filterMap id).map fun q => V.int q.2)) nLa
        have hLa := upd_same (H := G8) (a := La) (o := HO.lst ([V.int (-1)] ++ (ls.filterMap id).map fun q => V.int q.2))
        have s68 := u0.trans s8
        have s69 := s68.trans uA
        generalize upd G8 La (.lst ([V.int (-1)] ++ (ls.filterMap id).map fun q => V.int q.2)) = G9 at *
        refine ⟨_, rfl, p, _, _, .ref na, rfl, rfl, .of (s69 _ _ hp), atI_nat (j := 2) rfl, na, rfl, ⟨_, .of (s69 _ _ hna)⟩, fun D2 nD2 => ?_⟩
        refine lc_it (walk_tup (xs := wv)) (tt := tYes) (te := tOp (rIxT K) (tVar 17) (tC (.int 1))) (fun i G => Same G9 G ∧ G D2 = some (.lst ((ns.take i).map fun n => V.int n.2.1))) ⟨same_upd nD2, upd_same⟩ (fun i G _ hG => .of (hG.1 _ _ (s69 _ _ hna))) ?_ ?_
        · rintro i y G G' hi ⟨sm, hD2⟩ ⟨rfl, hy⟩
          obtain ⟨n, hn, hnd⟩ := Paired.at' hnp hy
          obtain ⟨xa, nda, ca, rfl, g1, g2, g3⟩ := id hnd
          refine ⟨rfl, ?_⟩
          refine ⟨_, rfl, xa, _, _, .int n.2.1, rfl, rfl, .of (sm _ _ (s69 _ _ g1)), atI_nat (j := 1) rfl, _, hD2, ?_, same_put sm nD2, ?_⟩
          · rw [List.length_map, List.length_take]
            exact Nat.lt_of_le_of_lt (show min i ns.length ≤ 1152 by omega) (by decide)
          · rw [upd_same, take_snoc hn, List.map_append]
            rfl
        rintro G10 ⟨s10, hD2⟩
        rw [hwv, List.take_length] at hD2
        refine ⟨La, D2, _, _, rfl, rfl, s10 _ _ hLa, hD2, Nat.le_trans (show _ ≤ 1409 by rw [List.length_append, List.length_map (as := ns)]; simp only [List.length_singleton]; omega) (by decide), fun Lk nLk => ?_⟩
        have eLk : ([V.int (-1)] ++ (ls.filterMap id).map fun q => V.int q.2) ++ (ns.map fun n => V.int n.2.1) = ((-1 : Int) :: lockL ls ns).map V.int := by
          unfold lockL
          rw [List.map_cons, List.map_append, List.map_map, List.map_map]
          rfl
        rw [eLk]
        refine ⟨Lk, (-1 : Int) :: lockL ls ns, rfl, SqL.of upd_same, by simp, fun m hm hle => ?_⟩
        refine hrest _ _ ⟨m, rfl, (s69.trans s10).trans (same_upd nLk), List.mem_cons.mp hm, fun k hk => hle k (List.mem_cons_of_mem _ hk)⟩
      rintro σ G7 ⟨m, rfl, s7, hm, hle⟩
      have hX7 := hX6.same s7
      have hB7 := hB6.same s7
      have hp7 := s7 _ _ hp
      have hL7 := hL.tk (.same s7)
      have hN7 := hN.tk (.same s7)
      clear hX6 hB6 hp hL hN hla hna hlp hnp hlv hwv s7
      have hmx : ((h : Nat) : Int) ≤ maxI := by
        have e : (8 : Int) ≤ maxI := by decide
        have := d.h8
        omega
      try dsimp only [gName]
      refine seq_set ?_
      refine mk_use (b := b) (i := 7) rfl hp7 (.int _ hmx) (thg_lvs hX7.nt hL7 d.gl (Nat.le_trans d.l256 (by decide))) (thg_nds hX7.nt hN7 d) (drawn_ok hL7 hN7 d) fun G8 x dx s8 nx hx => ?_
      have hX8 := hX7.same s8
      have hB8 := hB7.same s8
      have nxf : x ∉ B.foot := fun hm => foot_there hB7 hm nx
      have nxp : x ≠ p := fun e => by rw [e, hp7] at nx; cases nx
      try dsimp only [gName]
      refine ⟨_, rfl, B.b, B.dx, _, rfl, hB8.ins, rfl, B, es, rfl, hB8, fun G9 B' s9 hf9 hB9' => ?_⟩
      have s89 := s8.trans s9
      have hX9 := hX8.same s9
      have hB9 := hB8.same s9
      have hp9 := s89 _ _ hp7
      have hL9 := hL7.tk (.same s89)
      have hN9 := hN7.tk (.same s89)
      have hx9 := s9 _ _ hx
      obtain ⟨lv, hla, hlp⟩ := id hL9
      obtain ⟨wv, hna, hnp⟩ := id hN9
      have nlf : la ∉ B.foot := fun hm => hB9.notup _ hm _ hla
      have nnf : na ∉ B.foot := fun hm => hB9.notup _ hm _ hna
      try dsimp only [gName]
      refine ⟨_, rfl, _, rfl, B, es, x, dx, la, na, h, ls, ns, rfl, hB9, by omega, ⟨hx9, hL9, hN9⟩, d, fun p0 hp0 => ?_, fun hk G10 s10 => ?_, fun hk G10 es1 t bl10 hB10 pre10 hT10 same10 len10 nw10 => ?_⟩
      · simp only [List.mem_cons, List.not_mem_nil, or_false] at hp0
        rcases hp0 with rfl | rfl | rfl
        · exact nxf
        · exact nlf
        · exact nnf
      · -- a lock is no term
        have hB10 := hB9.same s10
        have hB10' := hB9'.same s10
        try dsimp only [gName]
        refine ⟨_, rfl, _, rfl, _, _, rfl, rfl, _, rfl, ite2 (fun _ => ?_) (fun hn => ?_)⟩
        · refine ⟨_, rfl, rfl, _, rfl, ?_⟩
          rw [decide_eq_true rfl]
          refine iteF ?_
          refine ⟨_, rfl, _, rfl, B.b, B.dx, _, _, rfl, hB10.ins, .base (.ins hB10'.ins c.cls ci.ha ci.hn ci.htk ci.hm), eB.nf, B, es, _, rfl, hB10, .inl ⟨B', es, rfl, hB10', _, rfl, _, rfl, ?_⟩⟩
          rw [decide_eq_true rfl]
          refine iteF ?_
          exact ⟨_, _, _, _, _, _, _, _, _, _, _, _, _, _, es, rfl, hX9.same s10, hB10, h1, by omega, hf.mono (by omega)⟩
        · refine absurd (decide_eq_true ?_) hn
          obtain ⟨k0, hk0, hge⟩ := hk
          have := hle k0 hk0
          show m ≥ (es.length : Nat)
          omega
      · -- all locks are terms
        have hm1 : m < (es.length : Nat) := by
          rcases hm with rfl | hm
          · omega
          · exact hk m hm
        have hX10 := box_ft hX9 bl10 sp.nb sp.ng
        have tk10 : TK G9 G10 := .bl bl10 fun p0 hp0 xs e => hB9.notup _ hp0 _ e
        have hp10 := bl10 _ _ npB hp9
        have hL10 := hL9.tk tk10
        have hN10 := hN9.tk tk10
        have hl1 : es.length ≤ es1.length := pre10.length_le
        have hf1 : Fit (270 + 10 * i) es1 := fit_of hf nw10 (Nat.le_refl _) (by omega)
        have ht1 : t < es1.length := by
          obtain ⟨_, _, _, _, _, _, x1, _⟩ := id hT10
          exact (List.getElem?_eq_some_iff.mp x1).1
        try dsimp only [gName]
        refine ⟨_, rfl, _, rfl, _, _, rfl, rfl, _, rfl, ite2 (fun hn => ?_) (fun _ => ?_)⟩
        · have := of_decide_eq_true hn
          have : m ≥ (es.length : Nat) := this
          omega
        refine ⟨_, rfl, B.b, B.dx, _, rfl, hB10.ins, rfl, _, rfl, _, rfl, B, es1, p, la, na, h, t, ls, ns, rfl, hB10, by omega, hp10, hL10, hN10, hT10, fun G11 l ia ib ic id' s11 hl11 he11 => ?_⟩
        refine .inl ⟨l, _, rfl, .of hl11, fun pt npt => ?_⟩
        have u12 := same_upd (o := HO.tup (nV [ia, ib, ic, id'])) npt
        have hpt := upd_same (H := G11) (a := pt) (o := HO.tup (nV [ia, ib, ic, id']))
        dsimp only [tNil]
        show spPut P w C C0 C1 [.ref B.b, .str "row", .ref pt] _ _ _
        refine put_found (z := "row") (hB10.same (s11.trans u12)) (due_row (is := nInt [ia, ib, ic, id']) (by rw [nV_int]; exact hpt) (row_in hB10.wf he11).1 (row_in hB10.wf he11).2) (by omega) he11 fun G13 s13 => ?_
        have s1013 := (s11.trans u12).trans s13
        have hB13 := hB10.same s1013
        have hX13 := hX10.same s1013
        have hp13 := s1013 _ _ hp10
        have hL13 := hL10.tk (.same s1013)
        have hN13 := hN10.tk (.same s1013)
        have gt : GTr h ls ns := DrT.gtr (b := b) (la := b) (na := b) (H := G13) d
        try dsimp only [gName]
        refine ⟨_, rfl, _, "bool", "int", rfl, .int _, by simp, _, rfl, ?_⟩
        rw [show instT "int" "bool" = false by decide]
        refine iteF ⟨_, rfl, _, rfl, rfl, _, rfl, ?_⟩
        rw [decide_eq_true rfl]
        refine iteF ⟨_, rfl, _, rfl, B, es1, t, rfl, hB13, ht1, fun G14 x' dx' la' na' h' ls' ns' s14 nx' hT' hTr dr => ?_, fun no => absurd d (no _ _ _ hT10)⟩
        obtain ⟨rfl, rfl, rfl⟩ := TreeT.det hTr hT10
        refine ⟨_, rfl, .ref x', .ref p, rfl, .inr ⟨x', dx', la', na', p, la, na, _, _, _, rfl, rfl, hT', s14 _ _ hp13, hL13.tk (.same s14), hN13.tk (.same s14), gt, fun G15 s15 => ⟨_, rfl, iteF ?_⟩⟩⟩
        have s1315 := s14.trans s15
        refine ⟨6, rfl, by decide, by decide, ?_⟩
        refine for_it (walk_range (lo := 0)) (fun j σ G => ∃ (y13 y14 y15 y16 : Option V) (es2 : List Ent), σ = [some (.ref a), some (.ref b), some (.ref B.b), some (.int (0 + (i : Nat))), some (.ref p4), some (.int (es.length : Nat)), some (.bl wild), some (.ref p), some (.int m), some (.ref x), some (.ref B'.b), some (.int (t : Nat)), some (.int (t : Nat)), y13, y14, y15, y16, none] ∧ BoxAt G b g ∧ BookAt P w G C B es2 ∧ es1.length ≤ es2.length ∧ es2.length ≤ es1.length + 5 * j ∧ Fit (270 + 10 * i + j) es2) ⟨_, _, _, _, es1, rfl, hX13.same s1315, hB13.same s1315, Nat.le_refl _, Nat.le_refl _, hf1⟩ (fun i σ G _ _ => trivial) ?_ ?_
        · rintro j y σ K1 K1' hj ⟨y13, y14, y15, y16, es2, rfl, hXk, hBk, k1, k2, kf⟩ ⟨rfl, rfl⟩
          have hj6 : j < 6 := by omega
          try dsimp only [gName]
          refine ⟨_, rfl, _, rfl, _, rfl, b, g, B, es2, t, 270 + 10 * i + j, rfl, hXk, hBk, sp, kf, by omega, by omega, by omega, fun K2 es3 u blk hXu hBu preu hfu hlu hu => ?_⟩
          have hl3 : es2.length ≤ es3.length := preu.length_le
          try dsimp only [gName]
          refine ⟨_, rfl, _, rfl, B, es3, u, rfl, hBu, hu, fun K3 p2 la2 na2 h2 ls2 ns2 s3 np2 hp2 hL2 hN2 hT2 d2 => ?_, fun no K3 s3 => ?_⟩
          · try dsimp only [gName]
            have hB3 := hBu.same s3
            refine ⟨_, rfl, _, rfl, B, es3, u, rfl, hB3, hu, fun K4 x2 dx2 la3 na3 h3 ls3 ns3 s4 nx2 hTA hTr dr3 => ?_, fun no => absurd d2 (no _ _ _ hT2)⟩
            obtain ⟨rfl, rfl, rfl⟩ := TreeT.det hTr hT2
            have gt2 : GTr h3 ls3 ns3 := DrT.gtr (b := b) (la := b) (na := b) (H := K4) dr3
            have hB4 := hB3.same s4
            obtain ⟨lv2, hla2, _⟩ := id hTA.2.1
            obtain ⟨wv2, hna2, _⟩ := id hTA.2.2
            have nf2 : ∀ p0 ∈ [x2, la3, na3], p0 ∉ B.foot := fun p0 hp0 => by
              simp only [List.mem_cons, List.not_mem_nil, or_false] at hp0
              rcases hp0 with rfl | rfl | rfl
              · exact fun hm => foot_there hB3 hm nx2
              · exact fun hm => hB4.notup _ hm _ hla2
              · exact fun hm => hB4.notup _ hm _ hna2
            try dsimp only [gName]
            refine ⟨_, rfl, _, rfl, .ref x2, .ref p2, rfl, .inr ⟨x2, dx2, la3, na3, p2, la2, na2, _, _, _, rfl, rfl, hTA, s4 _ _ hp2, hL2.tk (.same s4), hN2.tk (.same s4), gt2, fun K5 s5 => ⟨_, rfl, iteF ?_⟩⟩⟩
            have hB5 := hB4.same s5
            refine ⟨_, rfl, rfl, _, rfl, iteT ⟨_, rfl, _, rfl, B, es3, x2, dx2, la3, na3, h3, ls3, ns3, rfl, hB5, by omega, ⟨s5 _ _ hTA.1, hTA.2.1.tk (.same s5), hTA.2.2.tk (.same s5)⟩, dr3, nf2, fun ⟨k0, hk0, hge⟩ => ?_, fun _ K6 es4 t4 bl6 hB6 pre6 hT6 same6 len6 nw6 => ?_⟩⟩
            · have := lock_lt hBu.wf hTr k0 hk0
              omega
            · obtain rfl := same6 ⟨u, hTr⟩
              obtain rfl := TreeT.uniq hB6.wf.nd hT6 hTr
              refine ⟨_, rfl, rfl, _, rfl, ?_⟩
              rw [decide_eq_true rfl]
              refine iteF ?_
              exact ⟨_, _, _, _, es4, rfl, box_ft (((hXu.same s3).same s4).same s5) bl6 sp.nb sp.ng, hB6, by omega, by omega, hfu.mono (by omega)⟩
          · try dsimp only [gName]
            have hB3 := hBu.same s3
            refine ⟨_, rfl, _, rfl, B, es3, u, rfl, hB3, hu, fun K4 x2 dx2 la3 na3 h3 ls3 ns3 s4 nx2 hTA hTr dr3 => absurd dr3 (no _ _ _ hTr), fun _ K4 s4 => ?_⟩
            try dsimp only [gName]
            refine ⟨_, rfl, _, rfl, .non, .non, rfl, .inl ⟨rfl, rfl, _, rfl, iteF ?_⟩⟩
            refine ⟨_, rfl, rfl, _, rfl, iteF ?_⟩
            exact ⟨_, _, _, _, es3, rfl, (hXu.same s3).same s4, hB3.same s4, by omega, by omega, hfu.mono (by omega)⟩
        · rintro σ K1 ⟨y13, y14, y15, y16, es2, rfl, hXk, hBk, k1, k2, kf⟩
          exact ⟨_, _, _, _, _, _, _, _, _, _, _, _, _, _, es2, rfl, hXk, hBk, by omega, by omega, kf.mono (by omega)⟩
    · rintro σ G ⟨y3, y4, y5, y6, y7, y8, y9, y10, y11, y12, y13, y14, y15, y16, es, rfl, hX3, hB3, h1, h2, hf⟩
      exact q G
end
end L2.Bk
end
section
set_option Elab.async false
set_option linter.all false
set_option maxRecDepth 100000
set_option maxHeartbeats 4000000
namespace L2.Bk
open L2.My PySem PySem.Spec PyProof.Rows
/-! The start of the head: __init__ of PostError does nothing; what may be called, at higher levels. -/
abbrev sPeI : Stmt := inClass (top 2) 0
section
variable {P : Program} {w : World} {K : PySem.W.Frag} {mg : Str → Option Value} {base : Heap} {C : Addr}
theorem scPeI : FnScope ["self"] ["self"] (defScope sPeI) := ⟨rfl, rfl, rfl, by decide +kernel, rfl, by decide +kernel, by decide +kernel⟩
theorem ok_pe {f : Addr} {fd : FuncData} {k : Nat} (F : Fun K "__init__" "PostError.__init__" sPeI f fd) : FnOk P w K mg base CX0 (k + 1) f fd ["self"] spNo := by
  refine F.ok scPeI (fun vs H Q E h => ?_) (fun cdv A outer s H vs Q E hr h => ?_)
  · obtain ⟨x, rfl, _⟩ := h
    rfl
  · obtain ⟨x, rfl, q⟩ := h
    refine ⟨_, pss_one ps_pass, ?_⟩
    exact q
theorem ini0_of {f : Addr} {fd : FuncData} (F : Fun K "__init__" "PostError.__init__" sPeI f fd) (o : OexC K C) (h1 : PySem.W.findIn K (.ref C) "__init__" = some (some (.ref f))) (h2 : PySem.W.typeIn K (.ref f) = some (.type "function")) : Ini0 P w K mg base C :=
  ⟨o, f, fd, h1, h2, ok_pe F, F.binds (ps := ["self"]) fun _ _ _ _ _ _ us hl => match us, hl with | [_], _ => rfl⟩
/-- what lets nothing out lets nothing out -/
theorem lift0 {k : Nat} {f : Addr} {fd : FuncData} {ps : List Str} {sp : Sp} (F : FnOk P w K mg base CX0 k f fd ps sp) : FnOk P w K mg base (CX P w) k f fd ps sp := by
  refine ⟨F.len, fun A o s0 H0 as us vs R E hr e0 hb rv hs => codeAny_mono (F.run A o s0 H0 as us vs R E hr e0 hb rv hs) fun r s2 z => ?_⟩
  match r, z with
  | .ok (.ret _), z => exact z
  | .ok .next, z => exact z
  | .ok .brk, z => exact z
  | .ok .cont, z => exact z
  | .error _, z => exact z.elim
def upC {k j : Nat} {x : Str} {ps : List Str} {sp : Sp} (c : Cal P w K mg base k x ps sp) (h : k ≤ j) : Cal P w K mg base j x ps sp := ⟨c.f, c.fd, c.G.mono h, c.kp, c.g, c.b⟩
end
end L2.Bk
end
section
set_option Elab.async false
set_option linter.all false
set_option maxRecDepth 100000
set_option maxHeartbeats 4000000
namespace L2.Bk
open L2.My PySem PySem.Spec PyProof.Rows He
/-! The head: what is looked at. -/
theorem fun_of {K : PySem.W.Frag} {x q : Str} {st : Stmt} {f : Addr} {fd : FuncData} (F : FunD K x q (defArgs st) (defBody st) (defScope st) [] [] f fd) : Fun K x q st f fd := by
  obtain ⟨oc, od, dV, kV, doc, pm, an, cdv, ct, osl, e, l, c, d, _⟩ := F.ex
  rcases d with ⟨_, rfl⟩ | ⟨h, _⟩
  · exact ⟨⟨oc, od, kV, doc, pm, an, cdv, ct, osl, e, l, c⟩, F.kp⟩
  · exact absurd rfl h
end L2.Bk
end
section
set_option Elab.async false
set_option linter.all false
set_option maxRecDepth 100000
set_option maxHeartbeats 4000000
namespace L2.Bk
open L2.My PySem PySem.Spec PyProof.Rows He LamX
section
variable {P : Program} {w : World} {K : PySem.W.Frag} {mg : Str → Option Value} {h0 base : Heap}
abbrev SX (w : World) (h : Heap) (K : PySem.W.Frag) : Prop := SaysX faK fnK tsK tfK exK1 w h K
theorem defAt (c : SX w h0 K) (i : Nat) {x : Str} {st : Stmt} (h : fnK[i]? = some (eD x st) := by rfl) : ∃ fd, Fun K x x st (ga K x) fd := by
  obtain ⟨fd, F⟩ := c.t.d.def_ i (d := eD x st) h
  exact ⟨fd, fun_of F⟩
theorem mthAt (c : SX w h0 K) (i : Nat) {C m q : Str} {st : Stmt} (h : fnK[i]? = some (eM C m q st) := by rfl) : ∃ fd, Fun K m q st (ma K (ga K C) m) fd := by
  obtain ⟨fd, F⟩ := c.t.d.def_ i (d := eM C m q st) h
  exact ⟨fd, fun_of F⟩
theorem factM (c : SX w h0 K) {f : Fa} (h : f ∈ faK) : f.ok K = true := c.t.d.facts h
theorem gloM (X : K.In h0) (G : h0.Ns mainGlobals mg) (c : SX w h0 K) {x : Str} (h : x ∈ gloK := by decide +kernel) : mg x = some (.ref (ga K x)) := glo_ok X G (factM c (List.mem_append_left _ (List.mem_map_of_mem h)))
theorem freeM (X : K.In h0) (G : h0.Ns mainGlobals mg) (c : SX w h0 K) {x : Str} (h : x ∈ freeK := by decide +kernel) : mg x = none := free_ok X G (factM c (List.mem_append_right _ (List.mem_append_left _ (List.mem_map_of_mem h))))
theorem restM (c : SX w h0 K) (i : Nat) {f : Fa} (h : restK[i]? = some f := by rfl) : f.ok K = true := factM c (List.mem_append_right _ (List.mem_append_right _ (List.mem_append_left _ (List.mem_of_getElem? h))))
theorem bkC (c : SX w h0 K) : BkC K (ga K "Book") := ⟨cls_ok (restM c 5), fun f hf => noat_ok (factM c (List.mem_append_right _ (List.mem_append_right _ (List.mem_append_right _ (List.mem_append_left _ (List.mem_map_of_mem (show f ∈ noaB from hf)))))))⟩
theorem trC (c : SX w h0 K) : TrC K (ga K "Tree") := ⟨cls_ok (restM c 7), fun f hf => noat_ok (factM c (List.mem_append_right _ (List.mem_append_right _ (List.mem_append_right _ (List.mem_append_right _ (List.mem_append_left _ (List.mem_map_of_mem (show f ∈ noaT from hf))))))))⟩
theorem methM (c : SX w h0 K) {m : Str} (h : m ∈ metK := by decide +kernel) : Meth K (ga K "Book") m (ma K (ga K "Book") m) := meth_ok (factM c (List.mem_append_right _ (List.mem_append_right _ (List.mem_append_right _ (List.mem_append_right _ (List.mem_append_right _ (List.mem_map_of_mem h)))))))
theorem txt (X : K.In h0) (G : h0.Ns mainGlobals mg) (c : SX w h0 K) : Tx mg :=
  ⟨freeM X G c, freeM X G c, freeM X G c, freeM X G c, freeM X G c, freeM X G c, freeM X G c, freeM X G c, freeM X G c, freeM X G c, freeM X G c, int_ok X G (restM c 3), int_ok X G (restM c 4)⟩
theorem plTxt (X : K.In h0) (G : h0.Ns mainGlobals mg) (c : SX w h0 K) : PlTxt mg :=
  ⟨freeM X G c, freeM X G c, freeM X G c, freeM X G c, freeM X G c, freeM X G c, freeM X G c, freeM X G c, freeM X G c, freeM X G c, int_ok X G (restM c 0)⟩
structure MoreK (K : PySem.W.Frag) : Prop where
  x0 : XC K (ga K "NoKind")
  i0 : PySem.W.findIn K (.ref (ga K "NoKind")) "__init__" = some (some (.ref (ma K (ga K "PostError") "__init__")))
  x1 : XC K (ga K "NoParts")
  i1 : PySem.W.findIn K (.ref (ga K "NoParts")) "__init__" = some (some (.ref (ma K (ga K "PostError") "__init__")))
  x2 : XC K (ga K "NoTerm")
  i2 : PySem.W.findIn K (.ref (ga K "NoTerm")) "__init__" = some (some (.ref (ma K (ga K "PostError") "__init__")))
  tP : PySem.W.typeIn K (.ref (ma K (ga K "PostError") "__init__")) = some (.type "function")
  eN : PySem.W.exmOne K (.ref (ga K "NoTerm")) (.ref (ga K "NoTerm")) = some true
  x : XC K (ga K "BadTree")
  no : PySem.W.findIn K (.ref (ga K "BadTree")) "part" = some none
  i : PySem.W.findIn K (.ref (ga K "BadTree")) "__init__" = some (some (.ref (ma K (ga K "BadTree") "__init__")))
  t : PySem.W.typeIn K (.ref (ma K (ga K "BadTree") "__init__")) = some (.type "function")
  kP : PySem.W.kitOne K (.ref (ga K "BadTree")) (.ref (ga K "PostError")) = some true
  kV : PySem.W.kitOne K (.ref (ga K "BadTree")) (.type "ValueError") = some true
  te : PySem.W.exmOne K (.ref (ga K "BadTree")) (.ref (ga K "BadTree")) = some true
  ha : PySem.W.findIn K (.ref (ga K "Book")) "__class__" = some (some (.builtin "object.__class__"))
  hn : PySem.W.specialIn K (.builtin "object.__class__") "__get__" = some (some (.builtin "getset_descriptor.__get__"))
  htk : PySem.W.takesIn K (.builtin "object.__class__") = some true
  hm : PySem.W.mroIn K (ga K "Book") (.type "object") = some true
  self : PySem.W.kitOne K (.ref (ga K "Book")) (.ref (ga K "Book")) = some true
  hs : PySem.W.findIn K (.ref (ga K "Book")) "__eq__" = some (some (.ref (ma K (ga K "Book") "__eq__")))
  hf : PySem.W.isFn K (.ref (ma K (ga K "Book") "__eq__")) = true
  nf : PySem.W.notFirst K (ga K "Book") (.ref (ga K "Book")) = true
  lv : ∀ H, SqT K H (ga K "LEAVES") [.str "name", .str "number", .str "fresh"]
  pk : ∀ H, SqT K H (ga K "PUT_KINDS") (putK9.map .str)
  cv : valsB K (ga K "COUNTS") (sizesK.map fun p => (p.1, .int (p.2 : Nat))) = true
theorem moreK (c : SX w h0 K) : MoreK K := by
  have m := c.more
  unfold exK1 at m
  obtain ⟨m0, m⟩ := ba m
  obtain ⟨m1, m⟩ := ba m
  obtain ⟨m2, m⟩ := ba m
  obtain ⟨m3, m⟩ := ba m
  obtain ⟨m4, m⟩ := ba m
  obtain ⟨m5, m⟩ := ba m
  obtain ⟨m6, m⟩ := ba m
  obtain ⟨m7, m⟩ := ba m
  obtain ⟨m8, m⟩ := ba m
  obtain ⟨m9, m⟩ := ba m
  obtain ⟨m10, m⟩ := ba m
  obtain ⟨m11, m⟩ := ba m
  obtain ⟨m12, m⟩ := ba m
  obtain ⟨m13, m⟩ := ba m
  obtain ⟨m14, m⟩ := ba m
  obtain ⟨m15, m⟩ := ba m
  obtain ⟨m16, m⟩ := ba m
  obtain ⟨m17, m⟩ := ba m
  obtain ⟨m18, m⟩ := ba m
  obtain ⟨m19, m⟩ := ba m
  obtain ⟨m20, m⟩ := ba m
  obtain ⟨m21, m⟩ := ba m
  obtain ⟨m22, m⟩ := ba m
  obtain ⟨m23, m⟩ := ba m
  obtain ⟨m24, m25⟩ := ba m
  have pk_of : ∀ {H : Hp}, SqT K H (ga K "PUT_KINDS") ((putK9.map Dv.str).map (Dv.v K)) → SqT K H (ga K "PUT_KINDS") (putK9.map V.str) := fun {H} q => by
    have e : (putK9.map Dv.str).map (Dv.v K) = putK9.map V.str := by rw [List.map_map]; rfl
    rw [e] at q
    exact q
  exact ⟨(xcB_ok m0), (eqO_ok m1), (xcB_ok m2), (eqO_ok m3), (xcB_ok m4), (eqO_ok m5), (L2.My.eqV_ok m6), (eqB_ok m7), (xcB_ok m8), (eqO_ok m9), (eqO_ok m10), (L2.My.eqV_ok m11), (eqB_ok m12), (eqB_ok m13), (eqB_ok m14), (eqO_ok m15), (eqO_ok m16), (eqB_ok m17), (eqB_ok m18), (eqB_ok m19), (eqO_ok m20), (m21), (m22), (fun H => tupB_ok m23 H), (fun H => pk_of (tupB_ok m24 H)), (m25)⟩
theorem conC (X : K.In h0) (G : h0.Ns mainGlobals mg) (c : SX w h0 K) (m : MoreK K) : Nonempty (ConC K w mg) := by
  obtain ⟨es, n, D⟩ := c.t.tab 0 (t := ((fun K => ga K "COUNTS"), ["made", "lock", "box", "chest", "mark", "print"])) rfl
  refine ⟨⟨ga K "COUNTS", gloM X G c, fun p hp => ?_, int_ok X G (restM c 1), int_ok X G (restM c 2)⟩⟩
  obtain ⟨u, e, r⟩ := valsB_ok m.cv (List.mem_map_of_mem (f := fun p : Str × Nat => (p.1, Dv.int (p.2 : Nat))) hp)
  exact ⟨es, n, u, D.at_, D.lit, e, r⟩
def calAt {k : Nat} {x : Str} {ps : List Str} {sp : Sp} {fd : FuncData} {st : Stmt} (X : K.In h0) (G : h0.Ns mainGlobals mg) (c : SX w h0 K) (F : Fun K x x st (ga K x) fd) (H : FnOk P w K mg base CX0 k (ga K x) fd ps sp) (b : Binds K fd ps []) (h : x ∈ gloK := by decide +kernel) : Cal P w K mg base k x ps sp := ⟨ga K x, fd, H, F.kp, gloM X G c h, b⟩
def calxAt {k : Nat} {x : Str} {ps : List Str} {sp : Sp} {fd : FuncData} {st : Stmt} (X : K.In h0) (G : h0.Ns mainGlobals mg) (c : SX w h0 K) (F : Fun K x x st (ga K x) fd) (H : FnOk P w K mg base (CX P w) k (ga K x) fd ps sp) (b : Binds K fd ps []) (h : x ∈ gloK := by decide +kernel) : CalX P w K mg base k x ps sp := ⟨ga K x, fd, H, F.kp, gloM X G c h, b⟩
def calgAt {k : Nat} {x : Str} {ps : List Str} {sp : Sp} {fd : FuncData} {st : Stmt} (X : K.In h0) (G : h0.Ns mainGlobals mg) (c : SX w h0 K) (F : Fun K x x st (ga K x) fd) (H : FnOkG P w K mg base k (ga K x) fd ps sp) (b : Binds K fd ps []) (h : x ∈ gloK := by decide +kernel) : CalG P w K mg base k x ps sp := ⟨ga K x, fd, H, F.kp, gloM X G c h, b⟩
end
end L2.Bk
end
section
set_option Elab.async false
set_option linter.all false
set_option maxRecDepth 100000
set_option maxHeartbeats 4000000
namespace L2.Bk
open L2.My PySem PySem.Spec PyProof.Rows He LamX
section
variable {P : Program} {w : World} {K : PySem.W.Frag} {mg : Str → Option Value} {h0 : Heap}
theorem facts {f : Addr} (X : K.In h0) (G : h0.Ns mainGlobals mg) (hfa : mg ("law" : Str) = some (.ref f)) (c : SX w h0 K) :
    ∃ fd : FuncData, (∀ (s : Shared) (v : Value), BindsTo s fd ⟨[v], []⟩ [("script", v)]) ∧ ∀ base : Heap, K.In base → base.Ns mainGlobals mg → FnOkG P w K mg base 12 f fd ["script"] (spLaw K) := by
  have e := hfa.symm.trans (gloM X G c (x := "law"))
  cases e
  obtain ⟨fdLaw, FLaw⟩ := defAt c 48 (x := "law") (st := sLaw)
  refine ⟨fdLaw, fun s v => ?_, fun base _ _ => ?_⟩
  · obtain ⟨oc, od, kV, doc, pm, an, cdv, ct, osl, rfl, lk, hcd⟩ := FLaw.ex
    exact .of_eq rfl
  have T := txt X G c
  have T1 := plTxt X G c
  have tc := trC c
  have cB := bkC c
  have m := moreK c
  have ti : BkI K (ga K "Book") := ⟨m.ha, m.hn, m.htk, m.hm, m.self⟩
  have gB : mg "Book" = some (.ref (ga K "Book")) := gloM X G c
  obtain ⟨CC⟩ := conC X G c m
  have LV : LeavC K mg := ⟨ga K "LEAVES", gloM X G c, m.lv⟩
  have PC : PutC K mg := ⟨ga K "PUT_KINDS", gloM X G c, m.pk⟩
  have MK : Mk K (ga K "Book") (ma K (ga K "Book") "__init__") := mkr_ok (restM c 6)
  obtain ⟨fdBel, FBel⟩ := defAt c 0 (x := "is_below") (st := sBelow)
  obtain ⟨fdSgn, FSgn⟩ := defAt c 1 (x := "is_sign") (st := sSign)
  obtain ⟨fdNmt, FNmt⟩ := defAt c 2 (x := "is_name_text") (st := sNameT)
  obtain ⟨fdNt, FNt⟩ := defAt c 3 (x := "name_term") (st := sNt)
  obtain ⟨fdUt, FUt⟩ := defAt c 4 (x := "number_term") (st := sUt)
  obtain ⟨fdRt, FRt⟩ := defAt c 5 (x := "row_term") (st := sRt)
  obtain ⟨fdTp, FTp⟩ := defAt c 6 (x := "told_part") (st := sTp)
  obtain ⟨fdTw, FTw⟩ := defAt c 7 (x := "told_row") (st := sTw)
  obtain ⟨fdWor, FWor⟩ := defAt c 8 (x := "is_word") (st := sWord)
  obtain ⟨fdNub, FNub⟩ := defAt c 9 (x := "is_number") (st := sNumb)
  obtain ⟨fdAsc, FAsc⟩ := defAt c 10 (x := "ascends") (st := sAsc)
  obtain ⟨fdPai, FPai⟩ := defAt c 11 (x := "is_pair") (st := sPair)
  obtain ⟨fdMem, FMem⟩ := defAt c 12 (x := "is_member") (st := sMemb)
  obtain ⟨fdLea, FLea⟩ := defAt c 13 (x := "is_leaves") (st := sLeav)
  obtain ⟨fdNod, FNod⟩ := defAt c 14 (x := "is_node") (st := sNode)
  obtain ⟨fdKep, FKep⟩ := defAt c 15 (x := "is_kept_node") (st := sKept)
  obtain ⟨fdNds, FNds⟩ := defAt c 16 (x := "is_nodes") (st := sNods)
  obtain ⟨fdTt, FTt⟩ := defAt c 17 (x := "tree_term") (st := sTt)
  obtain ⟨fdTo, FTo⟩ := defAt c 18 (x := "tree_of") (st := sTo)
  obtain ⟨fdTl, FTl⟩ := defAt c 19 (x := "told_leaf") (st := sTl)
  obtain ⟨fdTn, FTn⟩ := defAt c 20 (x := "told_node") (st := sTn)
  obtain ⟨fdMix, FMix⟩ := defAt c 21 (x := "_law_mixed") (st := sMixd)
  obtain ⟨fdBox, FBox⟩ := defAt c 22 (x := "_law_box") (st := sBox)
  obtain ⟨fdRef, FRef⟩ := defAt c 23 (x := "_law_refill") (st := sRefill)
  obtain ⟨fdDra, FDra⟩ := defAt c 24 (x := "_law_draw") (st := sDraw)
  obtain ⟨fdNam, FNam⟩ := defAt c 25 (x := "_law_name") (st := sName)
  obtain ⟨fdLoc, FLoc⟩ := defAt c 26 (x := "_law_lock") (st := sLock)
  obtain ⟨fdBen, FBen⟩ := defAt c 27 (x := "_law_beneath") (st := sBen)
  obtain ⟨fdTre, FTre⟩ := defAt c 28 (x := "_law_tree") (st := sTr)
  obtain ⟨fdInt, FInt⟩ := defAt c 29 (x := "_law_int") (st := sLint)
  obtain ⟨fdNmd, FNmd⟩ := defAt c 30 (x := "_law_named") (st := sNamd)
  obtain ⟨fdMbs, FMbs⟩ := defAt c 31 (x := "_law_members") (st := sMbs)
  obtain ⟨fdLnd, FLnd⟩ := defAt c 32 (x := "_law_node") (st := sLnd)
  obtain ⟨fdLas, FLas⟩ := defAt c 33 (x := "_law_aside") (st := sLas)
  obtain ⟨fdLns, FLns⟩ := defAt c 34 (x := "_law_nodes") (st := sLns)
  obtain ⟨fdLbd, FLbd⟩ := defAt c 35 (x := "_law_bad") (st := sLbd)
  obtain ⟨fdLbk, FLbk⟩ := defAt c 36 (x := "_law_book") (st := sLbk)
  obtain ⟨fdLlk, FLlk⟩ := defAt c 37 (x := "_law_locks") (st := sLlk)
  obtain ⟨fdLnu, FLnu⟩ := defAt c 38 (x := "_law_number") (st := sLnu)
  obtain ⟨fdLit, FLit⟩ := defAt c 39 (x := "_law_items") (st := sLit)
  obtain ⟨fdRn, FRn⟩ := defAt c 40 (x := "_law_read_number") (st := sRn)
  obtain ⟨fdRw, FRw⟩ := defAt c 41 (x := "_law_read_row") (st := sRw)
  obtain ⟨fdRl, FRl⟩ := defAt c 42 (x := "_law_read_leaf") (st := sRl)
  obtain ⟨fdRo, FRo⟩ := defAt c 43 (x := "_law_read_node") (st := sRo)
  obtain ⟨fdRd, FRd⟩ := defAt c 44 (x := "_law_read") (st := sRd)
  obtain ⟨fdBt, FBt⟩ := defAt c 45 (x := "_law_bent") (st := sBt)
  obtain ⟨fdLt, FLt⟩ := defAt c 46 (x := "_law_told") (st := sLt)
  obtain ⟨fdSm, FSm⟩ := defAt c 47 (x := "_law_same") (st := sSm)
  obtain ⟨fdPI, FPI⟩ := mthAt c 49 (C := "PostError") (m := "__init__") (q := "PostError.__init__") (st := sPeI)
  obtain ⟨fdBI, FBI⟩ := mthAt c 50 (C := "BadTree") (m := "__init__") (q := "BadTree.__init__") (st := sBad)
  obtain ⟨fdRI, FRI⟩ := mthAt c 51 (C := "Tree") (m := "__init__") (q := "Tree.__init__") (st := (mT 0))
  obtain ⟨fdIni, FIni⟩ := mthAt c 52 (C := "Book") (m := "__init__") (q := "Book.__init__") (st := (mth 0))
  obtain ⟨fdEq, FEq⟩ := mthAt c 53 (C := "Book") (m := "__eq__") (q := "Book.__eq__") (st := (mth 1))
  obtain ⟨fdPut, FPut⟩ := mthAt c 54 (C := "Book") (m := "put") (q := "Book.put") (st := (mth 2))
  obtain ⟨fdFr, FFr⟩ := mthAt c 55 (C := "Book") (m := "fresh") (q := "Book.fresh") (st := (mth 3))
  obtain ⟨fdSz, FSz⟩ := mthAt c 56 (C := "Book") (m := "size") (q := "Book.size") (st := (mth 4))
  obtain ⟨fdNo, FNo⟩ := mthAt c 57 (C := "Book") (m := "number_of") (q := "Book.number_of") (st := (mth 6))
  obtain ⟨fdKi, FKi⟩ := mthAt c 58 (C := "Book") (m := "kind") (q := "Book.kind") (st := (mth 7))
  obtain ⟨fdPa, FPa⟩ := mthAt c 59 (C := "Book") (m := "parts") (q := "Book.parts") (st := (mth 8))
  obtain ⟨fdCo, FCo⟩ := mthAt c 60 (C := "Book") (m := "copy") (q := "Book.copy") (st := (mth 11))
  obtain ⟨fdCh, FCh⟩ := mthAt c 61 (C := "Book") (m := "_check") (q := "Book._check") (st := (mth 12))
  obtain ⟨fdAr, FAr⟩ := mthAt c 62 (C := "Book") (m := "_are_terms") (q := "Book._are_terms") (st := (mth 13))
  obtain ⟨fdFi, FFi⟩ := mthAt c 63 (C := "Book") (m := "_fits") (q := "Book._fits") (st := (mth 14))
  obtain ⟨fdPn, FPn⟩ := mthAt c 64 (C := "Book") (m := "_put_new") (q := "Book._put_new") (st := (mth 15))
  obtain ⟨fdIn, FIn⟩ := mthAt c 65 (C := "Book") (m := "_inner") (q := "Book._inner") (st := (mth 16))
  have bBel : Binds K fdBel ["bound", "thing"] [] := FBel.binds (ps := ["bound", "thing"]) fun _ _ _ _ _ _ us hl => match us, hl with | [_, _], _ => rfl
  have bSgn : Binds K fdSgn ["sign"] [] := FSgn.binds (ps := ["sign"]) fun _ _ _ _ _ _ us hl => match us, hl with | [_], _ => rfl
  have bNmt : Binds K fdNmt ["thing"] [] := FNmt.binds (ps := ["thing"]) fun _ _ _ _ _ _ us hl => match us, hl with | [_], _ => rfl
  have bNt : Binds K fdNt ["book", "text"] [] := FNt.binds (ps := ["book", "text"]) fun _ _ _ _ _ _ us hl => match us, hl with | [_, _], _ => rfl
  have bUt : Binds K fdUt ["book", "number"] [] := FUt.binds (ps := ["book", "number"]) fun _ _ _ _ _ _ us hl => match us, hl with | [_, _], _ => rfl
  have bRt : Binds K fdRt ["book", "items"] [] := FRt.binds (ps := ["book", "items"]) fun _ _ _ _ _ _ us hl => match us, hl with | [_, _], _ => rfl
  have bTp : Binds K fdTp ["book", "kind", "term"] [] := FTp.binds (ps := ["book", "kind", "term"]) fun _ _ _ _ _ _ us hl => match us, hl with | [_, _, _], _ => rfl
  have bTw : Binds K fdTw ["book", "term", "count"] [] := FTw.binds (ps := ["book", "term", "count"]) fun _ _ _ _ _ _ us hl => match us, hl with | [_, _, _], _ => rfl
  have bWor : Binds K fdWor ["thing"] [] := FWor.binds (ps := ["thing"]) fun _ _ _ _ _ _ us hl => match us, hl with | [_], _ => rfl
  have bNub : Binds K fdNub ["thing"] [] := FNub.binds (ps := ["thing"]) fun _ _ _ _ _ _ us hl => match us, hl with | [_], _ => rfl
  have bAsc : Binds K fdAsc ["things"] [] := FAsc.binds (ps := ["things"]) fun _ _ _ _ _ _ us hl => match us, hl with | [_], _ => rfl
  have bPai : Binds K fdPai ["thing"] [] := FPai.binds (ps := ["thing"]) fun _ _ _ _ _ _ us hl => match us, hl with | [_], _ => rfl
  have bMem : Binds K fdMem ["thing"] [] := FMem.binds (ps := ["thing"]) fun _ _ _ _ _ _ us hl => match us, hl with | [_], _ => rfl
  have bLea : Binds K fdLea ["height", "thing"] [] := FLea.binds (ps := ["height", "thing"]) fun _ _ _ _ _ _ us hl => match us, hl with | [_, _], _ => rfl
  have bNod : Binds K fdNod ["height", "thing"] [] := FNod.binds (ps := ["height", "thing"]) fun _ _ _ _ _ _ us hl => match us, hl with | [_, _], _ => rfl
  have bKep : Binds K fdKep ["height", "leaves", "thing"] [] := FKep.binds (ps := ["height", "leaves", "thing"]) fun _ _ _ _ _ _ us hl => match us, hl with | [_, _, _], _ => rfl
  have bNds : Binds K fdNds ["height", "leaves", "thing"] [] := FNds.binds (ps := ["height", "leaves", "thing"]) fun _ _ _ _ _ _ us hl => match us, hl with | [_, _, _], _ => rfl
  have bTt : Binds K fdTt ["book", "tree"] [] := FTt.binds (ps := ["book", "tree"]) fun _ _ _ _ _ _ us hl => match us, hl with | [_, _], _ => rfl
  have bTo : Binds K fdTo ["book", "term"] [] := FTo.binds (ps := ["book", "term"]) fun _ _ _ _ _ _ us hl => match us, hl with | [_, _], _ => rfl
  have bTl : Binds K fdTl ["book", "term"] [] := FTl.binds (ps := ["book", "term"]) fun _ _ _ _ _ _ us hl => match us, hl with | [_, _], _ => rfl
  have bTn : Binds K fdTn ["book", "term"] [] := FTn.binds (ps := ["book", "term"]) fun _ _ _ _ _ _ us hl => match us, hl with | [_, _], _ => rfl
  have bMix : Binds K fdMix ["number", "place"] [] := FMix.binds (ps := ["number", "place"]) fun _ _ _ _ _ _ us hl => match us, hl with | [_, _], _ => rfl
  have bBox : Binds K fdBox ["script"] [] := FBox.binds (ps := ["script"]) fun _ _ _ _ _ _ us hl => match us, hl with | [_], _ => rfl
  have bRef : Binds K fdRef ["box"] [] := FRef.binds (ps := ["box"]) fun _ _ _ _ _ _ us hl => match us, hl with | [_], _ => rfl
  have bDra : Binds K fdDra ["box", "menu"] [] := FDra.binds (ps := ["box", "menu"]) fun _ _ _ _ _ _ us hl => match us, hl with | [_, _], _ => rfl
  have bNam : Binds K fdNam ["box"] [] := FNam.binds (ps := ["box"]) fun _ _ _ _ _ _ us hl => match us, hl with | [_], _ => rfl
  have bLoc : Binds K fdLoc ["box"] [] := FLoc.binds (ps := ["box"]) fun _ _ _ _ _ _ us hl => match us, hl with | [_], _ => rfl
  have bBen : Binds K fdBen ["node"] [] := FBen.binds (ps := ["node"]) fun _ _ _ _ _ _ us hl => match us, hl with | [_], _ => rfl
  have bTre : Binds K fdTre ["box", "most"] [] := FTre.binds (ps := ["box", "most"]) fun _ _ _ _ _ _ us hl => match us, hl with | [_, _], _ => rfl
  have bInt : Binds K fdInt ["thing", "least", "most"] [] := FInt.binds (ps := ["thing", "least", "most"]) fun _ _ _ _ _ _ us hl => match us, hl with | [_, _, _], _ => rfl
  have bNmd : Binds K fdNmd ["thing"] [] := FNmd.binds (ps := ["thing"]) fun _ _ _ _ _ _ us hl => match us, hl with | [_], _ => rfl
  have bMbs : Binds K fdMbs ["height", "leaves"] [] := FMbs.binds (ps := ["height", "leaves"]) fun _ _ _ _ _ _ us hl => match us, hl with | [_, _], _ => rfl
  have bLnd : Binds K fdLnd ["thing", "height"] [] := FLnd.binds (ps := ["thing", "height"]) fun _ _ _ _ _ _ us hl => match us, hl with | [_, _], _ => rfl
  have bLas : Binds K fdLas ["thing", "node", "leaves"] [] := FLas.binds (ps := ["thing", "node", "leaves"]) fun _ _ _ _ _ _ us hl => match us, hl with | [_, _, _], _ => rfl
  have bLns : Binds K fdLns ["height", "leaves", "nodes"] [] := FLns.binds (ps := ["height", "leaves", "nodes"]) fun _ _ _ _ _ _ us hl => match us, hl with | [_, _, _], _ => rfl
  have bLbd : Binds K fdLbd ["parts"] [] := FLbd.binds (ps := ["parts"]) fun _ _ _ _ _ _ us hl => match us, hl with | [_], _ => rfl
  have bLbk : Binds K fdLbk ["box"] [] := FLbk.binds (ps := ["box"]) fun _ _ _ _ _ _ us hl => match us, hl with | [_], _ => rfl
  have bLlk : Binds K fdLlk ["box", "parts", "size"] [] := FLlk.binds (ps := ["box", "parts", "size"]) fun _ _ _ _ _ _ us hl => match us, hl with | [_, _, _], _ => rfl
  have bLnu : Binds K fdLnu ["book", "number"] [] := FLnu.binds (ps := ["book", "number"]) fun _ _ _ _ _ _ us hl => match us, hl with | [_, _], _ => rfl
  have bLit : Binds K fdLit ["book", "parts"] [] := FLit.binds (ps := ["book", "parts"]) fun _ _ _ _ _ _ us hl => match us, hl with | [_, _], _ => rfl
  have bRn : Binds K fdRn ["book", "term"] [] := FRn.binds (ps := ["book", "term"]) fun _ _ _ _ _ _ us hl => match us, hl with | [_, _], _ => rfl
  have bRw : Binds K fdRw ["book", "term", "many"] [] := FRw.binds (ps := ["book", "term", "many"]) fun _ _ _ _ _ _ us hl => match us, hl with | [_, _, _], _ => rfl
  have bRl : Binds K fdRl ["book", "term"] [] := FRl.binds (ps := ["book", "term"]) fun _ _ _ _ _ _ us hl => match us, hl with | [_, _], _ => rfl
  have bRo : Binds K fdRo ["book", "term"] [] := FRo.binds (ps := ["book", "term"]) fun _ _ _ _ _ _ us hl => match us, hl with | [_, _], _ => rfl
  have bRd : Binds K fdRd ["book", "term"] [] := FRd.binds (ps := ["book", "term"]) fun _ _ _ _ _ _ us hl => match us, hl with | [_, _], _ => rfl
  have bBt : Binds K fdBt ["box", "book", "term", "deep"] [] := FBt.binds (ps := ["box", "book", "term", "deep"]) fun _ _ _ _ _ _ us hl => match us, hl with | [_, _, _, _], _ => rfl
  have bLt : Binds K fdLt ["book", "tree"] [] := FLt.binds (ps := ["book", "tree"]) fun _ _ _ _ _ _ us hl => match us, hl with | [_, _], _ => rfl
  have bSm : Binds K fdSm ["tree", "parts"] [] := FSm.binds (ps := ["tree", "parts"]) fun _ _ _ _ _ _ us hl => match us, hl with | [_, _], _ => rfl
  have bPI : Binds K fdPI ["self"] [] := FPI.binds (ps := ["self"]) fun _ _ _ _ _ _ us hl => match us, hl with | [_], _ => rfl
  have bBI : Binds K fdBI ["self", "part"] [] := FBI.binds (ps := ["self", "part"]) fun _ _ _ _ _ _ us hl => match us, hl with | [_, _], _ => rfl
  have bRI : Binds K fdRI ["self", "height", "leaves", "nodes"] [] := FRI.binds (ps := ["self", "height", "leaves", "nodes"]) fun _ _ _ _ _ _ us hl => match us, hl with | [_, _, _, _], _ => rfl
  have bIni : Binds K fdIni ["self"] [] := FIni.binds (ps := ["self"]) fun _ _ _ _ _ _ us hl => match us, hl with | [_], _ => rfl
  have bEq : Binds K fdEq ["self", "other"] [] := FEq.binds (ps := ["self", "other"]) fun _ _ _ _ _ _ us hl => match us, hl with | [_, _], _ => rfl
  have bPut : Binds K fdPut ["self", "kind", "parts"] [] := FPut.binds (ps := ["self", "kind", "parts"]) fun _ _ _ _ _ _ us hl => match us, hl with | [_, _, _], _ => rfl
  have bFr : Binds K fdFr ["self"] [] := FFr.binds (ps := ["self"]) fun _ _ _ _ _ _ us hl => match us, hl with | [_], _ => rfl
  have bSz : Binds K fdSz ["self"] [] := FSz.binds (ps := ["self"]) fun _ _ _ _ _ _ us hl => match us, hl with | [_], _ => rfl
  have bNo : Binds K fdNo ["self", "kind", "parts"] [] := FNo.binds (ps := ["self", "kind", "parts"]) fun _ _ _ _ _ _ us hl => match us, hl with | [_, _, _], _ => rfl
  have bKi : Binds K fdKi ["self", "term"] [] := FKi.binds (ps := ["self", "term"]) fun _ _ _ _ _ _ us hl => match us, hl with | [_, _], _ => rfl
  have bPa : Binds K fdPa ["self", "term"] [] := FPa.binds (ps := ["self", "term"]) fun _ _ _ _ _ _ us hl => match us, hl with | [_, _], _ => rfl
  have bCo : Binds K fdCo ["self"] [] := FCo.binds (ps := ["self"]) fun _ _ _ _ _ _ us hl => match us, hl with | [_], _ => rfl
  have bCh : Binds K fdCh ["self", "term"] [] := FCh.binds (ps := ["self", "term"]) fun _ _ _ _ _ _ us hl => match us, hl with | [_, _], _ => rfl
  have bAr : Binds K fdAr ["self", "things"] [] := FAr.binds (ps := ["self", "things"]) fun _ _ _ _ _ _ us hl => match us, hl with | [_, _], _ => rfl
  have bFi : Binds K fdFi ["self", "kind", "parts"] [] := FFi.binds (ps := ["self", "kind", "parts"]) fun _ _ _ _ _ _ us hl => match us, hl with | [_, _, _], _ => rfl
  have bPn : Binds K fdPn ["self", "kind", "parts"] [] := FPn.binds (ps := ["self", "kind", "parts"]) fun _ _ _ _ _ _ us hl => match us, hl with | [_, _, _], _ => rfl
  have bIn : Binds K fdIn ["self", "term"] [] := FIn.binds (ps := ["self", "term"]) fun _ _ _ _ _ _ us hl => match us, hl with | [_, _], _ => rfl
  have I0 : Ini0 P w K mg base (ga K "NoKind") := ini0_of FPI m.x0.o m.i0 m.tP
  have I1 : Ini0 P w K mg base (ga K "NoParts") := ini0_of FPI m.x1.o m.i1 m.tP
  have I2 : Ini0 P w K mg base (ga K "NoTerm") := ini0_of FPI m.x2.o m.i2 m.tP
  have NX : NoTxt P w K mg base (ga K "NoKind") (ga K "NoParts") (ga K "NoTerm") (ga K "NoTerm") := ⟨gloM X G c, gloM X G c, gloM X G c, I0, I1, I2⟩
  have GBel : FnOk P w K mg base CX0 (0 + 1) _ fdBel _ _ := ok_below FBel T1
  have gBel : mg "is_below" = some (.ref (ga K "is_below")) := gloM X G c
  have GNam : FnOk P w K mg base CX0 (0 + 2) _ fdNmt _ _ := ok_nameT FNmt T1 FSgn (gloM X G c) bSgn
  have GSz : FnOk P w K mg base CX0 (0 + 1) _ fdSz _ _ := ok_size FSz T1 cB
  have GNo : FnOk P w K mg base CX0 (0 + 1) _ fdNo _ _ := ok_numOf FNo cB
  have GCh : FnOk P w K mg base (CX P w) (0 + 3) _ fdCh _ _ := ok_check FCh T1 cB NX FBel gBel bBel FSz (methM c) bSz
  have CH : ChkC P w K mg base (ga K "Book") (ga K "NoTerm") 3 := ⟨_, fdCh, GCh, methM c, bCh⟩
  have GKi : FnOk P w K mg base (CX P w) (0 + 4) _ fdKi _ _ := ok_kind FKi cB CH
  have GPa : FnOk P w K mg base (CX P w) (0 + 4) _ fdPa _ _ := ok_parts FPa cB CH
  have GIn : FnOk P w K mg base CX0 (0 + 1) _ fdIn _ _ := ok_inner FIn cB LV
  have GAr : FnOk P w K mg base CX0 (0 + 2) _ fdAr _ _ := ok_areT FAr T1 cB FBel gBel bBel FSz (methM c) bSz
  have GFi : FnOk P w K mg base CX0 (0 + 3) _ fdFi _ _ := ok_fits FFi T1 cB CC GBel FBel.kp gBel bBel GNam FNmt.kp (gloM X G c) bNmt GAr (methM c) bAr
  have GPn : FnOk P w K mg base CX0 (0 + 2) _ fdPn _ _ := ok_putNew FPn T1 cB GSz (methM c) bSz GIn (methM c) bIn
  have GFr : FnOk P w K mg base CX0 (0 + 3) _ fdFr _ _ := ok_fresh FFr cB GPn (methM c) bPn
  have GPut : FnOk P w K mg base (CX P w) (0 + 4) _ fdPut _ _ := ok_put FPut T1 cB NX PC GFi (methM c) bFi GNo (methM c) bNo GPn (methM c) bPn
  have GIni : FnOk P w K mg base CX0 (0 + 1) _ fdIni _ _ := ok_init FIni cB
  have GCo : FnOk P w K mg base CX0 (0 + 3) _ fdCo _ _ := ok_copy FCo T1 cB gB MK GIni bIni
  have GEq : FnOk P w K mg base CX0 (0 + 1) _ fdEq _ _ := ok_eqB FEq T1 cB ti gB
  have eB : EqB P w K mg base 1 (ga K "Book") := ⟨_, fdEq, GEq, m.hs, m.hf, bEq, m.nf⟩
  have mS : MthX P w K mg base (ga K "Book") 1 "size" ["self"] (spSize (ga K "Book")) := ⟨_, fdSz, lift0 GSz, methM c, bSz⟩
  have mF : MthX P w K mg base (ga K "Book") 4 "fresh" ["self"] (spFresh P w (ga K "Book")) := ⟨_, fdFr, (lift0 GFr).mono (by decide), methM c, bFr⟩
  have mC : MthX P w K mg base (ga K "Book") 3 "copy" ["self"] (spCopy P w (ga K "Book")) := ⟨_, fdCo, lift0 GCo, methM c, bCo⟩
  have mP : MthX P w K mg base (ga K "Book") 4 "put" ["self", "kind", "parts"] (spPut P w (ga K "Book") (ga K "NoKind") (ga K "NoParts")) := ⟨_, fdPut, GPut, methM c, bPut⟩
  have mK : MthX P w K mg base (ga K "Book") 4 "kind" ["self", "term"] (spTell P w (ga K "Book") (ga K "NoTerm") rKind) := ⟨_, fdKi, GKi, methM c, bKi⟩
  have mA : MthX P w K mg base (ga K "Book") 4 "parts" ["self", "term"] (spTell P w (ga K "Book") (ga K "NoTerm") rParts) := ⟨_, fdPa, GPa, methM c, bPa⟩
  have cBel0 : Cal P w K mg base 1 "is_below" ["bound", "thing"] L2.Bk.spBelow := calAt X G c FBel (GBel) bBel
  have cBel : Cal P w K mg base 1 "is_below" ["bound", "thing"] L2.My.spBelow := calAt X G c FBel (L2.My.ok_below (k := 0) FBel T) bBel
  have cWor : Cal P w K mg base 1 "is_word" ["thing"] spWord := calAt X G c FWor (ok_word (k := 0) FWor T) bWor
  have cNub : Cal P w K mg base 1 "is_number" ["thing"] spNumb := calAt X G c FNub (ok_numb (k := 0) FNub T) bNub
  have cAsc : Cal P w K mg base 1 "ascends" ["things"] spAsc := calAt X G c FAsc (ok_asc (k := 0) FAsc T) bAsc
  have cPai : Cal P w K mg base 1 "is_pair" ["thing"] spPair := calAt X G c FPai (ok_pair (k := 0) FPai T) bPai
  have cMem : Cal P w K mg base 2 "is_member" ["thing"] spMemb := calAt X G c FMem (ok_memb (k := 0) FMem T cPai cWor cNub) bMem
  have cLea : Cal P w K mg base 3 "is_leaves" ["height", "thing"] spLeav := calAt X G c FLea (ok_leav (k := 0) FLea T cMem) bLea
  have cNod : Cal P w K mg base 2 "is_node" ["height", "thing"] spNode := calAt X G c FNod (ok_node (k := 0) FNod T cPai cBel) bNod
  have cKep : Cal P w K mg base 3 "is_kept_node" ["height", "leaves", "thing"] spKept := calAt X G c FKep (ok_kept (k := 0) FKep T cNod (upC cNub (j := 2) (by decide)) (upC cBel (j := 2) (by decide)) (upC cAsc (j := 2) (by decide))) bKep
  have cNds : Cal P w K mg base 4 "is_nodes" ["height", "leaves", "thing"] spNods := calAt X G c FNds (ok_nods (k := 0) FNds T cKep (upC cAsc (j := 3) (by decide))) bNds
  have N : BadC P w K mg base (ga K "BadTree") := ⟨m.x, m.no, _, fdBI, m.i, m.t, ok_bad FBI m.x.o m.no, bBI, gloM X G c, ga K "PostError", gloM X G c, freeM X G c, m.kP, m.kV, m.te⟩
  have R : MkT P w K mg base 5 (ga K "Tree") (ga K "BadTree") := ⟨_, fdRI, mkr_ok (restM c 8), ok_tree (k := 0) FRI T tc N (upC cBel (j := 4) (by decide)) (upC cLea (j := 4) (by decide)) cNds, gloM X G c, bRI⟩
  have cNt : Cal P w K mg base 5 "name_term" ["book", "text"] (spNt P w (ga K "Book")) := calAt X G c FNt (ok_nt (k := 0) FNt cB mP) bNt
  have cUt : Cal P w K mg base 5 "number_term" ["book", "number"] (spUt P w (ga K "Book")) := calAt X G c FUt (ok_ut (k := 0) FUt cB mP) bUt
  have cRt : Cal P w K mg base 5 "row_term" ["book", "items"] (spRt P w (ga K "Book")) := calAt X G c FRt (ok_rt (k := 0) FRt cB (freeM X G c) mP) bRt
  have cTp : Cal P w K mg base 5 "told_part" ["book", "kind", "term"] (spTp P w (ga K "Book")) := calAt X G c FTp (ok_tp (k := 0) FTp cB mK mA) bTp
  have cTw : Cal P w K mg base 5 "told_row" ["book", "term", "count"] (spTw P w (ga K "Book")) := calAt X G c FTw (ok_tw (k := 0) FTw T cB mK mA) bTw
  have cTt : CalX P w K mg base 6 "tree_term" ["book", "tree"] (spTt P w (ga K "Book") (ga K "Tree") (ga K "NoTerm")) := calxAt X G c FTt (ok_tt (k := 0) FTt T cB tc I2 (gloM X G c) mS cBel0 cNt cUt cRt) bTt
  have cTl : Cal P w K mg base 6 "told_leaf" ["book", "term"] (spTl P w (ga K "Book")) := calAt X G c FTl (ok_tl (k := 0) FTl cTp cTw) bTl
  have cTn : Cal P w K mg base 6 "told_node" ["book", "term"] (spTn P w (ga K "Book")) := calAt X G c FTn (ok_tn (k := 0) FTn T cTp cTw) bTn
  have cTo : Cal P w K mg base 7 "tree_of" ["book", "term"] (spTo P w (ga K "Book") (ga K "Tree")) := calAt X G c FTo (ok_to (k := 0) FTo T N R cTp cTw cTl cTn) bTo
  have cMix : Cal P w K mg base 1 "_law_mixed" ["number", "place"] spMixd := calAt X G c FMix (ok_mixd (k := 0) FMix T) bMix
  have cBox : Cal P w K mg base 1 "_law_box" ["script"] (spBox K) := calAt X G c FBox (ok_box (k := 0) FBox T) bBox
  have cRef : Cal P w K mg base 2 "_law_refill" ["box"] spRefill := calAt X G c FRef (ok_refill (k := 0) FRef T cMix) bRef
  have cDra : Cal P w K mg base 3 "_law_draw" ["box", "menu"] spDraw := calAt X G c FDra (ok_draw (k := 0) FDra T (upC cMix (j := 2) (by decide)) cRef) bDra
  have cNam : Cal P w K mg base 4 "_law_name" ["box"] spName := calAt X G c FNam (ok_name (k := 0) FNam T cDra) bNam
  have cLoc : Cal P w K mg base 4 "_law_lock" ["box"] spLock := calAt X G c FLoc (L2.My.ok_lock (k := 0) FLoc T cDra) bLoc
  have cBen : Cal P w K mg base 1 "_law_beneath" ["node"] spBen := calAt X G c FBen (ok_ben (k := 0) FBen T) bBen
  have cTre : Cal P w K mg base 5 "_law_tree" ["box", "most"] spTr := calAt X G c FTre (ok_ltree (k := 0) FTre T (upC cDra (j := 4) (by decide)) (upC cBen (j := 4) (by decide)) cNam cLoc) bTre
  have cInt : Cal P w K mg base 1 "_law_int" ["thing", "least", "most"] spLint := calAt X G c FInt (ok_lint (k := 0) FInt T) bInt
  have cNmd : Cal P w K mg base 1 "_law_named" ["thing"] spWord := calAt X G c FNmd (ok_namd (k := 0) FNmd T) bNmd
  have cMbs : Cal P w K mg base 2 "_law_members" ["height", "leaves"] spMbs := calAt X G c FMbs (ok_mbs (k := 0) FMbs T cBen cNmd cInt) bMbs
  have cLnd : Cal P w K mg base 2 "_law_node" ["thing", "height"] spLnd := calAt X G c FLnd (ok_lnd (k := 0) FLnd T cBen cInt) bLnd
  have cLas : Cal P w K mg base 2 "_law_aside" ["thing", "node", "leaves"] spLas := calAt X G c FLas (ok_las (k := 0) FLas T cBen cInt) bLas
  have cLns : Cal P w K mg base 3 "_law_nodes" ["height", "leaves", "nodes"] spLns := calAt X G c FLns (ok_lns (k := 0) FLns T cLnd (upC cInt (j := 2) (by decide)) cLas) bLns
  have cLbd : Cal P w K mg base 4 "_law_bad" ["parts"] spLbd := calAt X G c FLbd (ok_lbd (k := 0) FLbd T (upC cInt (j := 3) (by decide)) (upC cMbs (j := 3) (by decide)) cLns) bLbd
  have cLbk : Cal P w K mg base 5 "_law_book" ["box"] (spBk P w (ga K "Book")) := calAt X G c FLbk (ok_lbk (k := 0) FLbk T cB gB MK GIni bIni cDra mF mS mP) bLbk
  have cLlk : Cal P w K mg base 4 "_law_locks" ["box", "parts", "size"] spLk := calAt X G c FLlk (ok_llk (k := 0) FLlk T cDra) bLlk
  have cLnu : Cal P w K mg base 5 "_law_number" ["book", "number"] (spLn P w (ga K "Book")) := calAt X G c FLnu (ok_lnu (k := 0) FLnu cB mP) bLnu
  have cLit : Cal P w K mg base 6 "_law_items" ["book", "parts"] (spLi P w (ga K "Book")) := calAt X G c FLit (ok_lit (k := 0) FLit T cB mP cLnu) bLit
  have cRn : Cal P w K mg base 5 "_law_read_number" ["book", "term"] (spRn P w (ga K "Book")) := calAt X G c FRn (ok_rn (k := 0) FRn cB mK mA) bRn
  have cRw : Cal P w K mg base 5 "_law_read_row" ["book", "term", "many"] (spRw P w (ga K "Book")) := calAt X G c FRw (ok_rw (k := 0) FRw T cB mK mA) bRw
  have cRl : Cal P w K mg base 6 "_law_read_leaf" ["book", "term"] (spTl P w (ga K "Book")) := calAt X G c FRl (ok_rl (k := 0) FRl cB mK mA cRn cRw) bRl
  have cRo : Cal P w K mg base 6 "_law_read_node" ["book", "term"] (spTn P w (ga K "Book")) := calAt X G c FRo (ok_ro (k := 0) FRo T cRn cRw) bRo
  have cRd : Cal P w K mg base 7 "_law_read" ["book", "term"] (spRd P w (ga K "Book")) := calAt X G c FRd (ok_rd (k := 0) FRd T cB mK mA cRn cRw cRl cRo (upC cLbd (j := 6) (by decide))) bRd
  have cBtN : Cal P w K mg base (0 + 5 + 0) "_law_bent" ["box", "book", "term", "deep"] (spBtR P w (ga K "Book") 0) := calAt X G c FBt ⟨fun _ _ _ _ h => h.elim, fun _ _ _ _ _ _ _ _ _ _ _ _ _ h => h.elim⟩ bBt
  have cBt0 : Cal P w K mg base (0 + 6 + 0) "_law_bent" ["box", "book", "term", "deep"] (spBt P w (ga K "Book") 0) := calAt X G c FBt (ok_bt (k := 0) (m := 0) FBt T cB (freeM X G c) cDra mS mP mK mA cLnu cBtN) bBt
  have cBt1 : Cal P w K mg base (0 + 6 + 1) "_law_bent" ["box", "book", "term", "deep"] (spBt P w (ga K "Book") 1) := calAt X G c FBt (ok_bt (k := 0) (m := 1) FBt T cB (freeM X G c) cDra mS mP mK mA cLnu cBt0) bBt
  have cBt2 : Cal P w K mg base (0 + 6 + 2) "_law_bent" ["box", "book", "term", "deep"] (spBt P w (ga K "Book") 2) := calAt X G c FBt (ok_bt (k := 0) (m := 2) FBt T cB (freeM X G c) cDra mS mP mK mA cLnu cBt1) bBt
  have cBt3 : Cal P w K mg base (0 + 6 + 3) "_law_bent" ["box", "book", "term", "deep"] (spBt P w (ga K "Book") 3) := calAt X G c FBt (ok_bt (k := 0) (m := 3) FBt T cB (freeM X G c) cDra mS mP mK mA cLnu cBt2) bBt
  have cBt4 : Cal P w K mg base (0 + 6 + 4) "_law_bent" ["box", "book", "term", "deep"] (spBt P w (ga K "Book") 4) := calAt X G c FBt (ok_bt (k := 0) (m := 4) FBt T cB (freeM X G c) cDra mS mP mK mA cLnu cBt3) bBt
  have M : ErT K mg (ga K "NoTerm") (ga K "PostError") := ⟨gloM X G c, gloM X G c, m.eN⟩
  have cLt : Cal P w K mg base 7 "_law_told" ["book", "tree"] (spLt P w (ga K "Book") (ga K "Tree")) := calAt X G c FLt (ok_lt (k := 0) FLt M cTt) bLt
  have cSm : CalG P w K mg base 1 "_law_same" ["tree", "parts"] (spSm K (ga K "Tree")) := calgAt X G c FSm (ok_sm (k := 0) FSm T tc) bSm
  exact ok_law (k := 0) FLaw T (freeM X G c) cB ti tc R eB cBox cDra cTre cLbk cLlk cLt cLit cTo cTt cBt4 cRd cSm mS mP mC
end
end L2.Bk
end
set_option Elab.async false
set_option linter.all false
set_option maxRecDepth 100000
set_option maxHeartbeats 0
open PySem PySem.W PySem.Calls PyProof.Rows
theorem PySem.Challenge.cw_strangerspost_k11_whole_trees_as_terms_holds : PySem.Challenge.rw_strangerspost_k11_whole_trees_as_terms.Holds := by
  w_on; o_law
  refine HandSHeadRun.head_any (r := OpenLaw.row PySem.Challenge.rw_strangerspost_k11_whole_trees_as_terms) (q := view (OpenLaw.row PySem.Challenge.rw_strangerspost_k11_whole_trees_as_terms).prog [70]) (H := L2.Bk.hkK) (ob := L2.Bk.obK) (M := 12000) (loose := L2.Bk.looA ++ L2.Bk.looB) (d := HandSHeadRun.topDef (OpenLaw.row PySem.Challenge.rw_strangerspost_k11_whole_trees_as_terms).prog 70) (kwd := []) L2.Bk.obK_eq
    (by kernel_rfl) (fun s => by kernel_rfl) L2.Bk.run (by kernel_rfl) (by kernel_rfl) (by kernel_rfl) (by rfl) (by first | assumption | decide +kernel) (by decide +kernel) ⟨rfl, rfl, rfl, rfl, rfl, by decide +kernel⟩ ?hw ?hc
  case hw => w_witness2
  case hc =>
    refine L2.My.walkG (l := PySem.Challenge.rw_strangerspost_k11_whole_trees_as_terms) (n := 63) (k := 12) (x := "script") (sp := L2.Bk.spLaw) rfl (by decide) (by kernel_rfl) ⟨rfl, by decide, by decide⟩ ?F (fun K H a ns hS => ⟨a, ns, rfl, hS, fun _ => rfl⟩)
    intro w mg fa h Y G hmg0
    obtain ⟨K, KX, c⟩ := Y
    have hmg : mg ("law" : PySem.Str) = some (.ref fa) := by
      have e : (HandSHeadRun.topDef (OpenLaw.row PySem.Challenge.rw_strangerspost_k11_whole_trees_as_terms).prog 70).name = ("law" : PySem.Str) := by kernel_rfl
      rw [← e]
      exact hmg0
    obtain ⟨fd, hb, hF⟩ := L2.Bk.facts (P := (PySem.Challenge.rw_strangerspost_k11_whole_trees_as_terms).prog) (w := w) KX G hmg c
    exact ⟨K, fd, KX, hb, hF⟩

