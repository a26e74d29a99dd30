import PyProof.Rows.All
import Wide.All
import OpenK.AllK
import Wide.FinOn
import HandS.ForMost
import HandS.Exc
import HandS.Walk
import HandS.Comp
import HandS.Style
import HandS.Deep
import HandS.DictComp
import HandS.SetKeys
import HandS.TupLen
import HandS.TupAny
import HandS.IsInst
import HandS.Sort
import HandS.SortRule
import HandS.DictTup
import HandS.Conv
import HandS.WideBits
import KE.GoesEnum
import KE.GoesZip
import KE.GoesMore
import HandS.SetFor
import HandS.SortKw
import HandS.ExcValue
import KE.KExcIs
import HandS.ExcInit
import PyProof.DictMoreH
import KE.KDictKeyed
import HandS.Wide
import HandS.TupLe
import HandS.RevTup
import HandS.Text
import HandS.More
import HandS.Iter
import HandS.OwnEq
import HandS.WordsExc
import HandS.Steps
import HandS.NoneIn
import HandS.Rev
import HandS.HeadWalk
import HandS.Words
import HandS.TryMany
import HandS.ExcIs
import HandS.Lambda
import HandS.HeadHook4
import PyProof.ReprRoads
import HandS.SortInts
import HandS.HeadEnd
import HandS.Head2
import HandS.HeadHook3
import HandS.NestedK
import PySem.Challenge.RW_strangerspost_k09_whole_paths_and_resolu
section
set_option Elab.async false
set_option linter.all false
set_option maxRecDepth 100000
set_option maxHeartbeats 4000000
/-! Own exceptions as values: made by an __init__ that is walked as a def, asked by isinstance, their fields read. -/
namespace L2.My
open PySem PySem.Spec PyProof.Rows

/-- the facts of an own exception class, beside OexC -/
structure XC (K : PySem.W.Frag) (C : Addr) : Prop where
  o : OexC K C
  hga : PySem.W.findIn K (.ref C) "__getattribute__" = some (some (.builtin "BaseException.__getattribute__"))
  hgt : PySem.W.findIn K (.ref C) "__getattr__" = some none
  ha : PySem.W.findIn K (.ref C) "__class__" = some (some (.builtin "object.__class__"))
  hn : PySem.W.specialIn K (.builtin "object.__class__") "__get__" = some (some (.builtin "getset_descriptor.__get__"))
  ht : PySem.W.takesIn K (.builtin "object.__class__") = some true
  hm : PySem.W.mroIn K C (.type "object") = some true
  hd : PySem.W.hasDictIn K C = true

/-- C(e, ..): a new exception object, then __init__; it stays tracked -/
def tMkX (C : Addr) (sp : Sp) (dvs : List V) (ta : TA) : TE := fun σ H Q => ta σ H fun vs H1 => vs.length ≤ 1000 ∧ ∀ a, H1 a = none → sp (.ref a :: (vs ++ dvs)) (upd H1 a (exo a C none))
  (fun v H2 => v = .non ∧ Q (.ref a) H2) (fun _ _ _ => False)
section
variable {X : Cx} {CX : CXT} {k : Nat} {fI C : Addr} {fd : FuncData} {ps : List Str} {sp : Sp} {dvs : List V} {ds : List Value} {x : Str} {p pos : Pos} {e : Expr} {es : List Expr} {ta : TA}
theorem run_mkx {pins : List (Addr × Obj)} {σ : St} {H : Hp} {s : Shared} {Q : VK} {us : List Value} {vs : List V} (T : OexC X.K C) (iC : PySem.W.findIn X.K (.ref C) "__init__" = some (some (.ref fI))) (tI : PySem.W.typeIn X.K (.ref fI) = some (.type "function"))
    (F1 : FnOk X.prog X.w X.K X.mg X.base CX k fI fd ps sp) (hr : Room (k + 1) X.A) (hb : Binds X.K fd ps ds) (hd : Vals dvs ds) (hx : Passes CX X (fun _ _ _ => False)) (I : Inv X pins σ H s) (r1 : Vals vs us) (hz : vs.length ≤ 1000)
    (h : ∀ a, H a = none → sp (.ref a :: (vs ++ dvs)) (upd H a (exo a C none)) (fun v H2 => v = .non ∧ Q (.ref a) H2) (fun _ _ _ => False)) :
    wpAny (model X.prog X.w) X.A (call (.ref C) us) (EP X pins σ Q) X.xe s := by
  obtain ⟨nm, q, N, bs, bm, sn, sub, ab, col, dd, k0, k1, k2, k3, k5, hC, hbm⟩ := T.cls
  obtain ⟨hp, g, dr, tk, os⟩ := s
  have hsz : hp.objs.size ≤ hp.objs.size + 1 := Nat.le_succ _
  have hn : H (hp.objs.size + 1) = none := I.hok.fresh hsz
  have hq := h (hp.objs.size + 1) hn
  have kk : ∀ b o, hp.get? b = some o → ((hp.push (PySem.W.kdv_tup us)).push (PySem.HandSPX.excO C hp.objs.size)).get? b = some o := fun b o e => Heap.get?_push_of_some _ (Heap.get?_push_of_some _ e)
  have hget : ((hp.push (PySem.W.kdv_tup us)).push (PySem.HandSPX.excO C hp.objs.size)).get? (hp.objs.size + 1) = some (PySem.HandSPX.excO C hp.objs.size) := by heap_get
  have I2 : Inv X pins σ (upd H (hp.objs.size + 1) (exo (hp.objs.size + 1) C none)) ⟨(hp.push (PySem.W.kdv_tup us)).push (PySem.HandSPX.excO C hp.objs.size), g, dr, tk, os⟩ :=
    I.laid (t' := tk) (a := hp.objs.size + 1) (o := exo (hp.objs.size + 1) C none) (h' := (hp.push (PySem.W.kdv_tup us)).push (PySem.HandSPX.excO C hp.objs.size)) kk hsz (exo_ok hget)
  have r2 : Vals (V.ref (hp.objs.size + 1) :: (vs ++ dvs)) (Value.ref (hp.objs.size + 1) :: (us ++ ds)) := .cons rfl (r1.append hd)
  have hl : (Value.ref (hp.objs.size + 1) :: us ++ ds).length = ps.length := by
    have e := r2.length
    rw [F1.len _ _ _ _ hq] at e
    exact e.symm
  have hus : us.length ≤ sizeLine := by
    rw [← Paired.length r1, sizeLine_eq]
    omega
  refine wpAny_call (PySem.HandSPX.call_own F.excBase_ValueError (fun Y => PySem.HandSPX.refsVE_contains Y bm hbm) (I.kIn _ _ hC) (PySem.W.looks_findIn I.kIn iC) (fun self => PySem.W.bind_fn I.kIn self tI) hus
    (codeAny_mono (F1.run _ X.stack _ _ ⟨Value.ref (hp.objs.size + 1) :: us, []⟩ (Value.ref (hp.objs.size + 1) :: (us ++ ds)) _ _ (fun _ _ _ => False) (hr.make C us []) (I2.env0.make C us []) (hb _ (Value.ref (hp.objs.size + 1) :: us) I2.kIn hl) r2 hq) fun r s' hq' => ?_))
  cases r with
  | error er => exact hx pins σ _ _ er s' I2 hq'
  | ok fl =>
    cases fl with
    | ret u =>
      obtain ⟨v, H', I3, rv, ev, q3⟩ := I2.after hq'
      subst ev
      exact ⟨rv, ⟨V.ref (hp.objs.size + 1), H', I3, rfl, q3⟩⟩
    | next => exact False.elim hq'
    | brk => exact False.elim hq'
    | cont => exact False.elim hq'
theorem pe_mkx (T : OexC X.K C) (iC : PySem.W.findIn X.K (.ref C) "__init__" = some (some (.ref fI))) (tI : PySem.W.typeIn X.K (.ref fI) = some (.type "function"))
    (F1 : FnOk X.prog X.w X.K X.mg X.base CX k fI fd ps sp) (hr : Room (k + 1) X.A) (hb : Binds X.K fd ps ds) (hd : Vals dvs ds) (hx : Passes CX X (fun _ _ _ => False)) (hg : Gl X x) (hm : X.mg x = some (.ref C)) (ha : PA X (e :: es) ta)
    (hdb : (x == ("__debug__" : Str)) = false := by decide) (he : starEach (e :: es) X.env = (false, eval e X.env) :: starEach es X.env := by rfl) (hpl : (backTo pos (starEach es X.env)).any (·.1) = false := by rfl) :
    PE X (.Call (.Name x p) (e :: es) [] pos) (tMkX C sp dvs ta) := by
  refine ⟨fun pins s σ H Q I h => ?_⟩
  refine wpAny_Call_Name_kw (ld_glob I hg hm ?_ hdb)
  refine PySem.W.callWith_K (h₀ := X.base) I.ok.mod.kin T.kC (thn (ha.run pos pins s σ H _ I h) fun us s1 ⟨vs, H1, I1, r1, hz, q1⟩ => ⟨I1.kIn, ?_⟩) he hpl
  exact run_mkx T iC tI F1 hr hb hd hx I1 r1 hz q1
theorem pe_mkx0 (T : OexC X.K C) (iC : PySem.W.findIn X.K (.ref C) "__init__" = some (some (.ref fI))) (tI : PySem.W.typeIn X.K (.ref fI) = some (.type "function"))
    (F1 : FnOk X.prog X.w X.K X.mg X.base CX k fI fd ps sp) (hr : Room (k + 1) X.A) (hb : Binds X.K fd ps ds) (hd : Vals dvs ds) (hx : Passes CX X (fun _ _ _ => False)) (hg : Gl X x) (hm : X.mg x = some (.ref C))
    (hdb : (x == ("__debug__" : Str)) = false := by decide) :
    PE X (.Call (.Name x p) [] [] pos) (tMkX C sp dvs tNil) := by
  refine ⟨fun pins s σ H Q I h => ?_⟩
  refine wpAny_Call_Name_kw (ld_glob I hg hm ?_ hdb)
  exact PySem.W.callWith_K0 I.kIn T.kC (run_mkx (us := []) T iC tI F1 hr hb hd hx I .nil h.1 h.2)
end

/-! ### an exception that stands: with its dict, or with none -/
/-- at a stands an exception of the class at C, its dict (if any) tracked -/
def ErrAt (H : Hp) (a C : Addr) : Prop := ∃ d : Option Addr, H a = some (exo a C d) ∧ ∀ dx, d = some dx → ∃ fs, H dx = some (exd dx fs)
theorem ErrAt.same {H H' : Hp} {a C : Addr} (h : ErrAt H a C) (s : Same H H') : ErrAt H' a C := by
  obtain ⟨d, h1, h2⟩ := h
  exact ⟨d, s _ _ h1, fun dx e => by
    obtain ⟨fs, q⟩ := h2 dx e
    exact ⟨fs, s _ _ q⟩⟩
section
variable {X : Cx} {pins : List (Addr × Obj)} {σ : St} {H : Hp} {s : Shared}
theorem XC.cl {K : PySem.W.Frag} {C : Addr} (T : XC K C) : (PySem.W.clsIn K C).isSome = true := by
  obtain ⟨cd, h, _⟩ := PySem.W.any_some T.hd
  rw [h]
  rfl
theorem ErrAt.inst {a C : Addr} (I : Inv X pins σ H s) (h : ErrAt H a C) : ∃ ox od, PySem.W.InstAt s.heap a ox C od := by
  obtain ⟨d, h1, h2⟩ := h
  obtain ⟨t1, ho⟩ := exo_at I.hok h1
  cases d with
  | none => exact ⟨_, none, ho, rfl, rfl, trivial⟩
  | some dx =>
    obtain ⟨fs, q⟩ := h2 dx rfl
    obtain ⟨mA, ⟨oD, _, _, hoD, _⟩, _⟩ := exd_at I.hok q
    exact ⟨_, some oD, ho, rfl, rfl, hoD⟩
/-- isinstance(e, c) of a standing exception -/
def rIsX (K : PySem.W.Frag) : List V → Hp → VK → Prop := fun xs H Q => ∃ (a C : Addr) (c : V) (u : Value) (b : Bool), xs = [.ref a, c] ∧ ErrAt H a C ∧ XC K C ∧ ClsV c u ∧ PySem.W.kitOne K (.ref C) u = some b ∧ Q (.bl b) H
theorem call_isX : CallR X (.builtin "isinstance") (rIsX X.K) := by
  intro pins s σ H xs us Q I r h
  obtain ⟨a, C, c, u, b, rfl, hE, T, k, e, q⟩ := h
  obtain ⟨u1, u2, rfl, r1, r2⟩ := vals2 r
  have e2 := k.eq r2
  subst e2
  cases (show u1 = Value.ref a from r1)
  obtain ⟨ox, od, J⟩ := hE.inst I
  exact PySem.W.kia_one (PySem.W.kitx_exc T.cl T.hga T.hgt T.o.exC T.ha T.hn T.ht T.hm) I.kIn J e (fun z => nomatch z) fun tk => ⟨.bl b, H, I.tok tk, rfl, q⟩
/-- e.f of a standing exception -/
def tXfv (K : PySem.W.Frag) (f : Str) (te : TE) : TE := fun σ H Q => te σ H fun x H1 => ∃ (a C dx : Addr) (fs : List (Str × V)) (v : V), x = .ref a ∧ XC K C ∧ PySem.W.findIn K (.ref C) f = some none ∧ H1 a = some (exo a C (some dx)) ∧ H1 dx = some (exd dx fs) ∧ fs.lookup f = some v ∧ Q v H1
theorem pe_xfv {e : Expr} {te : TE} {pos : Pos} {n : Str} (he : PE X e te) (hb : attributeBase e n X.env (eval e X.env) = eval e X.env := by rfl) : PE X (.Attribute e n pos) (tXfv X.K n te) := by
  refine ⟨fun pins s σ H Q I h => ?_⟩
  refine attr_of hb (thn (he.run pins s σ H _ I h) fun u s1 hh => ?_)
  obtain ⟨x, H1, I1, rx, a, C, dx, fs, v, ex, T, hno, ea, ed, l, q⟩ := hh
  subst ex
  obtain rfl : u = Value.ref a := rx
  obtain ⟨t1, ho⟩ := exo_at I1.hok ea
  obtain ⟨mA, hns, hr⟩ := exd_at I1.hok ed
  obtain ⟨od, hod, hl⟩ := lookIn_ns hns
  obtain ⟨u, hu, ru⟩ := RelO.some_of (v := v) (o := mA n) (by rw [← l]; exact hr n)
  have J : PySem.W.InstAt s1.heap a _ C (some od) := ⟨ho, rfl, rfl, hod⟩
  exact HandSPX.exc_get I1.kIn J T.hga T.hgt T.o.exC (PySem.W.findObj_own T.hd hno rfl (by rw [hl, hu])) (handed_of ru) ⟨v, H1, I1.tok _, ru, q⟩
end
end L2.My
end
section
set_option Elab.async false
set_option linter.all false
set_option maxRecDepth 100000
set_option maxHeartbeats 4000000
/-! Small rules of our own. -/
namespace L2.My
open PySem PySem.Spec PyProof.Rows
section
variable {X : Cx}
theorem pt_and {a b : Expr} {rest : List Expr} {pos : Pos} {tA tB : TT} (ha : PT X a tA) (hb : PW X (.BoolOp .And (b :: rest) pos) tB) : PT X (.BoolOp .And (a :: b :: rest) pos) (tAnd tA tB) := (pw_and ha hb).pt
theorem pt_or {a b : Expr} {rest : List Expr} {pos : Pos} {tA tB : TT} (ha : PT X a tA) (hb : PW X (.BoolOp .Or (b :: rest) pos) tB) : PT X (.BoolOp .Or (a :: b :: rest) pos) (tOr tA tB) := (pw_or ha hb).pt
theorem op_le_str : OpR X (compareOp .LtE) (fun x y H Q => ∃ i j, x = .str i ∧ y = .str j ∧ Q (.bl (!decide (j.cps.toList < i.cps.toList))) H) := by
  intro pins s σ H x y v u Q I rx ry h
  obtain ⟨i, j, rfl, rfl, q⟩ := h
  obtain ⟨t, rfl⟩ := rx
  obtain ⟨t', rfl⟩ := ry
  exact P.le_str (fin_bl I q (by simp))
/-- d in a tuple of data -/
def rInTD (K : PySem.W.Frag) : R2 := fun x y H Q => ∃ d ds, Dp K H x d ∧ Dp K H y (.tuple ds) ∧ SeqAt.shaped d = true ∧ SeqAt.shaped (.tuple ds) = true ∧ Q (.bl (ds.any fun z => PyData.eqv z d)) H
def rNotInTD (K : PySem.W.Frag) : R2 := fun x y H Q => ∃ d ds, Dp K H x d ∧ Dp K H y (.tuple ds) ∧ SeqAt.shaped d = true ∧ SeqAt.shaped (.tuple ds) = true ∧ Q (.bl (!ds.any fun z => PyData.eqv z d)) H
theorem op_inTD (hu : X.A.units + 65 < cLine) : OpR X (compareOp .In) (rInTD X.K) := by
  intro pins s σ H x y v u Q I rx ry h
  obtain ⟨d, ds, hd, he, sd, se, q⟩ := h
  obtain ⟨as, r1⟩ := Dp.reads I d x v hd rx
  obtain ⟨bs, r2⟩ := Dp.reads I (.tuple ds) y u he ry
  exact SeqAt.in_tuple_reads r2 r1 (SeqAt.canLay_of_shaped se) (SeqAt.canLay_of_shaped sd) (room_in_shaped sd hu) ⟨.bl _, H, I, rfl, q⟩
theorem op_notInTD (hu : X.A.units + 65 < cLine) : OpR X (compareOp .NotIn) (rNotInTD X.K) := by
  intro pins s σ H x y v u Q I rx ry h
  obtain ⟨d, ds, hd, he, sd, se, q⟩ := h
  obtain ⟨as, r1⟩ := Dp.reads I d x v hd rx
  obtain ⟨bs, r2⟩ := Dp.reads I (.tuple ds) y u he ry
  exact SeqAt.notIn_tuple_reads r2 r1 (SeqAt.canLay_of_shaped se) (SeqAt.canLay_of_shaped sd) (room_in_shaped sd hu) ⟨.bl _, H, I, rfl, q⟩
/-- a text, repeated -/
def strRep (z : Str) (n : Nat) : Str := ⟨(List.replicate n z.cps).foldl (· ++ ·) #[]⟩
theorem foldl_app (z : Array Nat) : ∀ (n : Nat) (a : Array Nat), ((List.replicate n z).foldl (· ++ ·) a).size = a.size + z.size * n
  | 0, a => by simp
  | n + 1, a => by
    rw [List.replicate_succ, List.foldl_cons, foldl_app z n, Array.size_append, Nat.mul_succ]
    omega
theorem strRep_len (z : Str) (n : Nat) : (strRep z n).length = z.length * n := by
  show ((List.replicate n z.cps).foldl (· ++ ·) #[]).size = _
  rw [foldl_app]
  show (#[] : Array Nat).size + z.cps.size * n = z.cps.size * n
  simp
theorem op_repS : OpR X (binaryOp .Mult) (fun x y H Q => ∃ z k, x = .str z ∧ y = .int k ∧ 2 ≤ k ∧ k ≤ 1000 ∧ 0 < z.length ∧ z.length ≤ 1000 ∧ Q (.str (strRep z k.toNat)) H) := by
  intro pins s σ H x y v u Q I rx ry h
  obtain ⟨z, k, rfl, rfl, h2, h3, h4, h5, q⟩ := h
  obtain ⟨t, rfl⟩ := rx
  obtain ⟨t', rfl⟩ := ry
  have c1 : ¬ k < 1 := by omega
  have c2 : ¬ ((k == 1 || z.length == 0) = true) := by
    simp
    omega
  refine P.mul_str ?_ (fun _ _ => ?_) (fun _ _ => ?_) ?_
  · simp
    omega
  · have h6 : (1000 : Int) ≤ (2 ^ 63 - 1) / k := by
      apply (Int.le_ediv_iff_mul_le (by omega)).mpr
      omega
    omega
  · have h7 : z.length * k.toNat ≤ 1000 * 1000 := Nat.mul_le_mul h5 (by omega)
    show decide (z.length * k.toNat > sizeLine) = false
    rw [sizeLine_eq]
    exact decide_eq_false (by omega)
  · rw [if_neg c1, if_neg c2]
    refine ⟨?_, .str _, H, I.tok _, ⟨_, rfl⟩, q⟩
    show (strRep z k.toNat).length ≤ sizeLine
    rw [strRep_len, sizeLine_eq]
    have h7 : z.length * k.toNat ≤ 1000 * 1000 := Nat.mul_le_mul h5 (by omega)
    omega
/-- how often True stands in a list of bools -/
def isTrueV (v : Value) : Bool := match v with
  | .bool b => b
  | _ => false
theorem trueV_count : ∀ {us : List Value} {bs : List Bool}, Vals (bs.map V.bl) us → us.countP isTrueV = bs.count true ∧ ∀ y ∈ us, ∃ b, y = Value.bool b
  | us, [], r => by
    cases r
    exact ⟨rfl, fun y hy => by cases hy⟩
  | us, b :: bs, r => by
    cases r with
    | cons r1 rt =>
      obtain ⟨h1, h2⟩ := trueV_count rt
      obtain rfl := (show _ = Value.bool b from r1)
      refine ⟨?_, fun y hy => ?_⟩
      · rw [List.countP_cons, List.count_cons, h1]
        cases b <;> rfl
      · rcases List.mem_cons.mp hy with e | e
        · exact ⟨b, e⟩
        · exact h2 y e
def rCntB (K : PySem.W.Frag) : V → List V → Hp → VK → Prop := fun x xs H Q => ∃ (p : Addr) (bs : List Bool), x = .ref p ∧ xs = [.bl true] ∧ SqL K H p (bs.map V.bl) ∧ Q (.int (bs.count true : Nat)) H
theorem mt_lcountB : MtR X "list.count" (rCntB X.K) := by
  intro pins s σ H x xs v us Q I rx rxs h
  obtain ⟨p, bs, rfl, rfl, hs, q⟩ := h
  cases rx
  obtain ⟨u, rfl, ru⟩ := rxs.one
  cases (show u = Value.bool true from ru)
  obtain ⟨its, rv, ⟨⟨cls, dd, data, sl⟩, n, ho, hc, hdn, hd⟩, hlen⟩ := I.list hs
  simp only at hc hd
  subst hc hd
  obtain ⟨ec, hall⟩ := trueV_count rv
  refine call_meets PySem.F.slot_list_count ⟨_, ho, rfl⟩ PySem.F.entry_list_count (PySem.F.args_list_count_2 _ _)
    (SeqAt.list_countAt p its.toArray n dd sl (.bool true) isTrueV) ⟨ho, fun y hy => ?_, ?_⟩
  · obtain ⟨b, rfl⟩ := hall y (by simpa using hy)
    have z := SeqAt.EqAt.bool_bool (A := X.A.in1) (s := s) b true
    cases b <;> exact z
  · refine ⟨.int (bs.count true : Nat), H, I.tok _, ⟨s.toks, ?_⟩, q⟩
    show Value.int ((its.toArray.toList.countP isTrueV : Nat) : Int) s.toks = Value.int ((bs.count true : Nat) : Int) s.toks
    rw [show its.toArray.toList = its from rfl, ec]
/-- l.extend(t), t a tuple -/
def rExtT (K : PySem.W.Frag) : V → List V → Hp → VK → Prop := fun x vs H Q => ∃ l b xs zs, x = .ref l ∧ vs = [.ref b] ∧ H l = some (.lst xs) ∧ SqT K H b zs ∧ xs.length + zs.length ≤ sizeLine ∧ Q .non (upd H l (.lst (xs ++ zs)))
theorem ext_tup (l : Addr) (items : Array Value) (n : Nat) (b : Addr) (o : Obj) (items2 : Array Value) (n2 : Nat) (ho : o.cls = .type "tuple") (hd : o.data = .seq items2 n2) (hs0 : ¬(!items.isEmpty && Builtin.List.listTooLong (items.size + items2.size)) = true) (hs1 : items.size ≤ sizeLine) (hs2 : items.size + items2.size ≤ sizeLine + 1) :
    Meets (Builtin.«list.extend» ⟨[.ref l, .ref b], []⟩) (fun _ R s => s.heap.get? l = some { cls := .type "list", dict := none, data := .seq items n, slots := #[] } ∧ s.heap.get? b = some o ∧ R (.ok (.ret Value.none)) { s with heap := s.heap.update l (Obj.mapSeq fun x => x ++ items2), toks := s.toks }) :=
  .of_wp fun prog w A R s h => by
    obtain ⟨hp, g, d, tk, os⟩ := s
    obtain ⟨hl, hb, h⟩ := h
    obtain ⟨oc, od, dt, sl⟩ := o
    dsimp only at ho hd
    subst ho hd
    have f2 := sub_tuple_tuple
    have f3 := sub_list_list
    have f4 := sub_tuple_list
    have f5 := sub_list_tuple
    have hz' : (items ++ items2).size ≤ sizeLine + 1 := by
      rw [Array.size_append]
      exact hs2
    wp_walk using (wpAny_updateSeq hl rfl (hz := hs1) (_hz' := hz')), wpAny_loadPart' hl, wpAny_loadPart' hb
    exact ⟨_, rfl, h⟩
theorem mt_extT : MtR X "list.extend" (rExtT X.K) := by
  intro pins s σ H x vs v us Q I rx rv h
  obtain ⟨l, b, xs, zs, rfl, rfl, hH, hB, hz, q⟩ := h
  cases rx
  obtain ⟨u, rfl, ru⟩ := rv.one
  cases ru
  obtain ⟨z, its, n, r, hl, e⟩ := I.lstM hH
  obtain ⟨its2, r2, ⟨o, e2, c2, n2, d2⟩, _⟩ := I.tuple hB
  have hl2 := r2.length
  have hsz : its.toArray.size + its2.toArray.size ≤ sizeLine := by
    rw [List.size_toArray, List.size_toArray]
    omega
  have hlong : ¬ (!its.toArray.isEmpty && Builtin.List.listTooLong (its.toArray.size + its2.toArray.size)) = true := by
    rw [notLongL hsz, Bool.and_false]
    exact Bool.false_ne_true
  refine call_meets F.slot_list_extend ⟨_, e, rfl⟩ F.entry_list_extend (F.args_list_extend_2 _ _)
    (ext_tup l its.toArray n b o its2.toArray n2 c2 d2 hlong (by rw [List.size_toArray]; omega) (by omega)) ⟨e, e2, ?_⟩
  refine ⟨.non, _, I.lset (its' := its ++ its2) hH e (by simp) (r.append r2) ?_, rfl, q⟩
  rw [List.length_append]
  omega
end
end L2.My
end
section
set_option Elab.async false
set_option linter.all false
set_option maxRecDepth 100000
set_option maxHeartbeats 4000000
/-! max of a list of ints with a default. -/
namespace PySem
section
variable {prog : Program} {w : World} {A : Around} {R : Result → Shared → Prop} {I : Addr} {fp wr : List Addr} {n : Nat} {P : Nat → Value → Prop} {St : Nat → Heap → Prop} {kw : List (Str × Value)}
theorem maxKw_turn (W : Walks prog w A.in1 I fp wr n P St) (bt : Nat → Nat → Bool) (hcmp : CmpOf prog w A.in1 .Gt P bt) (S : Addr) (hSf : S ∉ fp) :
    ∀ (k j : Nat) (s : Shared) (vb : Value) (c : Nat), n - (j + 1) = k → j + 1 ≤ n → St (j + 1) s.heap → P (argBest bt j) vb →
      s.heap.get? S = some { cls := .type "list", dict := none, data := .seq #[vb, vb] c, slots := #[] } →
      (∀ v h' tk, P (argBest bt (n - 1)) v → (∀ b o, b ∉ wr → b ≠ S → s.heap.get? b = some o → h'.get? b = some o) → R (.ok (.ret v)) { s with heap := h', toks := tk }) →
      codeAny (model prog w) A (.builtin "max.loop" ⟨[.ref I, .none, .ref S], kw⟩) R s := by
  have away : S ∉ wr := fun h => hSf (W.sub _ h)
  have name : (toString "max" ++ toString ".loop" : String) = "max.loop" := by decide
  intro k
  induction k with
  | zero =>
    intro j s vb c hk hj st pb hS hR
    have last : j + 1 = n := by omega
    refine codeAny_builtin F.entry_max_loop ?_
    rw [Around.under_plainId F.plain_max_loop _]
    refine wpAny_bind (m := seqItems? (.ref S)) (wpAny_seqItems hS rfl ?_)
    refine wpAny_bind (wpAny_tryCatch (W.done s _ _ (last ▸ st) fun h' tk keep => ?_))
    have hS2 := keep S _ away hS
    refine wpAny_bind (m := updateSeq S (fun _ => #[])) ?_
    refine wpAny_updateSeq hS2 rfl (wpAny_bind (wpAny_letGo (wpAny_pure ?_)))
    refine hR vb _ tk (by rw [← last]; exact pb) fun b o n1 n2 e => ?_
    rw [Heap.get?_update_other _ _ (Ne.symm n2)]
    exact keep b o n1 e
  | succ k ih =>
    intro j s vb c hk hj st pb hS hR
    have more : j + 1 < n := by omega
    refine codeAny_builtin F.entry_max_loop ?_
    rw [Around.under_plainId F.plain_max_loop _]
    refine wpAny_bind (m := seqItems? (.ref S)) (wpAny_seqItems hS rfl ?_)
    refine wpAny_bind (wpAny_tryCatch (W.item (j + 1) s _ _ more st fun v h' tk pv st2 keep => ?_))
    have hS2 := keep S _ away hS
    refine wpAny_bind (wpAny_pure ?_)
    refine wpAny_bind (wpAny_tryCatch (wpAny_holding (wpAny_bind (hcmp (j + 1) (argBest bt j) v vb _ _ _ pv pb ?_))))
    refine wpAny_bind (wpAny_holding (wpAny_truthy_bool ?_))
    refine wpAny_bind (wpAny_letGo (wpAny_pure ?_))
    cases hb : bt (j + 1) (argBest bt j) with
    | true =>
      simp only [if_true]
      refine wpAny_bind ?_
      refine wpAny_updateSeq hS2 rfl (wpAny_bind (wpAny_letGo ?_))
      rw [name]
      refine wpAny_pure ⟨plainId_quiet F.plain_max_loop _, ih (j + 1) _ v _ (by omega) more (W.frame _ _ _ st2 fun b hbf o e => ?_) (by simp only [argBest, hb, if_true]; exact pv) (Heap.get?_update_self _ hS2 rfl) fun v' h2 tk2 p2 k2 => ?_⟩
      · rw [Heap.get?_update_other _ _ (fun z : S = b => hSf (by rw [z]; exact hbf))]
        exact e
      · refine hR v' h2 tk2 p2 fun b o n1 n2 e => k2 b o n1 n2 ?_
        rw [Heap.get?_update_other _ _ (Ne.symm n2)]
        exact keep b o n1 e
    | false =>
      simp only [Bool.false_eq_true, if_false]
      refine wpAny_bind (wpAny_letGo ?_)
      rw [name]
      refine wpAny_pure ⟨plainId_quiet F.plain_max_loop _, ih (j + 1) _ vb c (by omega) more st2 (by simp only [argBest, hb, Bool.false_eq_true, if_false]; exact pb) hS2 fun v' h2 tk2 p2 k2 => ?_⟩
      exact hR v' h2 tk2 p2 fun b o n1 n2 e => k2 b o n1 n2 (keep b o n1 e)
end
section
variable {prog : Program} {w : World} {A : Around} {E : Value → Shared → Prop} {s : Shared}
/-- a built-in function called with keywords: its own tree -/
theorem call_kw_tree {id : String} {b : Builtin} {args : List Value} {kw : List (Str × Value)} {Q : Value → Shared → Prop} (hk : builtinKind id = none) (hp : plainId id = true) (hb : entryFor table id = some b) (ha : argsOk id ⟨args, kw⟩)
    (hc : wpAny (model prog w) A.in1 (b ⟨args, kw⟩) (fun fin s' => match fin with
      | .done f => (match (Except.ok f : Result) with | .ok (.ret v) => Q v s' | .ok _ => False | .error e => E e s')
      | .again c' => c'.quiet = true ∧ codeAny (model prog w) A c' (fun r s' => match r with | .ok (.ret v) => Q v s' | .ok _ => False | .error e => E e s') s') E s) :
    wpAny (model prog w) A (call (.builtin id) args kw) Q E s := by
  refine wpAny_call (codeAny_call_builtin hp hb ?_)
  simp only [checkBuiltinCall, hk]
  cases hsig : Manifest.signature? id with
  | none => exact wpAny_pure hc
  | some sig =>
    simp only [argsOk, hsig] at ha
    show wpAny _ A.in1 (Bind.checkArgs id sig ⟨args, kw⟩) _ _ s
    rw [show Bind.checkArgs id sig ⟨args, kw⟩ = pure () from ha]
    exact wpAny_pure hc
theorem args_maxD (a d : Value) : argsOk "max" ⟨[a], [(Str.ofString "default", d)]⟩ := by
  unfold argsOk
  kernel_rfl
theorem bind_maxD (d : Value) : Builtin.Builtins.bindParams "max" ["key", "default"] 0 ⟨[], [(Str.ofString "default", d)]⟩ = pure [none, some d] := by
  kernel_rfl
theorem max_intListD {l : Addr} {xs : Array (Int × Tok)} {d : Value} {Q : Value → Shared → Prop} (hh : A.handled = none) (hl : s.heap.IsList l (intItems xs))
    (h0 : xs.size = 0 → ∀ h' tk, (∀ b o, s.heap.get? b = some o → h'.get? b = some o) → Q d { s with heap := h', toks := tk })
    (h : 0 < xs.size → ∀ v h' tk, (intItems xs)[argBest (fun i j => decide (numAt xs i > numAt xs j)) (xs.size - 1)]? = some v → (∀ b o, s.heap.get? b = some o → h'.get? b = some o) → Q v { s with heap := h', toks := tk }) :
    wpAny (model prog w) A (call (.builtin "max") [.ref l] [(Str.ofString "default", d)]) Q E s := by
  have name : (toString "max" ++ toString ".loop" : String) = "max.loop" := by decide
  refine call_kw_tree F.kind_max F.plain_max F.entry_max (args_maxD _ _) ?_
  refine wpAny_bind (m := Builtin.Builtins.bindParams "max" ["key", "default"] 0 ⟨[], [(Str.ofString "default", d)]⟩) (wpAny_of_eq (bind_maxD d) ?_)
  refine wpAny_bind (wpAny_pure ?_)
  refine wpAny_bind (iter_intList hl fun s₂ e st hfp hlI => ?_)
  subst e
  refine wpAny_bind (wpAny_newObj_type ?_)
  rw [name]
  have W := Walks.list (prog := prog) (w := w) (A := A.in1) hh _ l hlI (intItems xs)
  have ne : (s.heap.push { cls := .type "list_iterator", data := .fields #[.ref l, .int 0 0] }).objs.size ∉ [s.heap.objs.size, l] := fun hm => Nat.lt_irrefl _ (hfp _ hm)
  have up : ∀ {b : Addr} {o o2 : Obj}, s.heap.get? b = some o → ((s.heap.push { cls := .type "list_iterator", data := .fields #[.ref l, .int 0 0] }).push o2).get? b = some o := fun e => Heap.get?_push_of_some _ (Heap.get?_push_of_some _ e)
  have old : ∀ {b : Addr} {o : Obj}, s.heap.get? b = some o → b ∉ [s.heap.objs.size] := fun e hm => by
    rcases List.mem_cons.mp hm with z | z
    · exact absurd (z ▸ Heap.lt_size e) (Nat.lt_irrefl _)
    · cases z
  have old2 : ∀ {b : Addr} {o : Obj}, s.heap.get? b = some o → b ≠ (s.heap.push { cls := .type "list_iterator", data := .fields #[.ref l, .int 0 0] }).objs.size := fun e => Nat.ne_of_lt (Heap.lt_size (Heap.get?_push_of_some _ e))
  have st0 := W.frame 0 _ ((s.heap.push { cls := .type "list_iterator", data := .fields #[.ref l, .int 0 0] }).push { cls := .type "list", data := .seq #[] }) st fun b _ o e => Heap.get?_push_of_some _ e
  have hS : ((s.heap.push { cls := .type "list_iterator", data := .fields #[.ref l, .int 0 0] }).push { cls := .type "list", data := .seq #[] }).get? (s.heap.push { cls := .type "list_iterator", data := .fields #[.ref l, .int 0 0] }).objs.size = some { cls := .type "list", data := .seq #[] } := Heap.get?_push_size _ rfl
  refine wpAny_pure ⟨plainId_quiet F.plain_max_loop _, ?_⟩
  refine codeAny_builtin F.entry_max_loop ?_
  rw [Around.under_plainId F.plain_max_loop _]
  refine wpAny_bind (m := seqItems? (.ref _)) (wpAny_seqItems hS rfl ?_)
  have szE : (intItems xs).size = xs.size := by simp [intItems]
  by_cases hz : xs.size = 0
  · refine wpAny_bind (wpAny_tryCatch (W.done _ _ _ (by rw [szE, hz]; exact st0) fun h' tk keep => ?_))
    refine wpAny_bind (wpAny_rule (wpAny_pure ?_))
    exact h0 hz h' tk fun b o e => keep b o (old e) (up e)
  · refine wpAny_bind (wpAny_tryCatch (W.item 0 _ _ _ (by rw [szE]; omega) st0 fun v h' tk pv st2 keep => ?_))
    have hS2 := keep _ _ (by simp [Heap.size_push]) hS
    refine wpAny_bind (wpAny_pure ?_)
    refine wpAny_bind ?_
    refine wpAny_updateSeq hS2 rfl ?_
    rw [name]
    refine wpAny_pure ⟨plainId_quiet F.plain_max_loop _, maxKw_turn W _ (CmpOf.ints_gt (numAt xs) (fun _ _ => intItems_at)) _ ne _ 0 _ v _ rfl (by rw [szE]; omega) (W.frame _ _ _ st2 fun b hbf o e => ?_) pv (Heap.get?_update_self _ hS2 rfl) fun v' h2 tk2 p2 k2 => ?_⟩
    · rw [Heap.get?_update_other _ _ (fun z => ne (by rw [z]; exact hbf))]
      exact e
    · rw [szE] at p2
      refine h (by omega) v' h2 tk2 p2 fun b o e => k2 b o (old e) (old2 e) ?_
      rw [Heap.get?_update_other _ _ (Ne.symm (old2 e))]
      exact keep b o (old e) (up e)
end
end PySem
namespace L2.My
open PySem PySem.Spec PyProof.Rows
section
variable {X : Cx}
/-- max(xs, default=d) of a list of ints -/
def rMaxD (K : PySem.W.Frag) : List V → List V → Hp → VK → Prop := fun xs zs H Q => ∃ (a : Addr) (ns : List Int) (d : Int), xs = [.ref a] ∧ zs = [.int d] ∧ SqL K H a (ns.map V.int) ∧ (ns = [] → Q (.int d) H) ∧ ∀ m, m ∈ ns → (∀ y, y ∈ ns → y ≤ m) → Q (.int m) H
theorem cr_maxD (hc : X.calm = true) : CallRK X (.builtin "max") [Str.ofString "default"] (rMaxD X.K) := by
  intro pins s σ H vs zs us ws Q I r rz h
  obtain ⟨a, ns, d, rfl, rfl, hs, q0, q1⟩ := h
  obtain ⟨its, rv, hl, _⟩ := I.list hs
  have hi := rv.ints
  obtain rfl := Vals.ref1 r
  obtain ⟨w1, rfl, e1⟩ := vals1 rz
  obtain ⟨td, rfl⟩ := (show ∃ t, w1 = Value.int d t from e1)
  obtain ⟨xs, e⟩ := hi.allInts.items
  have hn : numsOf (intItems xs).toList = ns := by rw [← e]; exact hi.numsOf
  rw [nums_intItems] at hn
  have hl2 := hl.isList
  rw [e] at hl2
  have ez : ns.length = xs.size := by rw [← hn, List.length_map, Array.length_toList]
  refine PySem.max_intListD (I.ok.hd hc) hl2 (fun h0 h' tk keep => ?_) fun h0 v h' tk hv keep => ?_
  · exact ⟨.int d, H, I.kept keep, ⟨td, rfl⟩, q0 (List.eq_nil_of_length_eq_zero (by rw [ez, h0]))⟩
  · obtain ⟨t, rfl⟩ := intItems_at hv
    obtain ⟨h1, h2⟩ := argBest_gt (numAt xs) (xs.size - 1)
    refine ⟨.int _, H, I.kept keep, ⟨t, rfl⟩, q1 _ ?_ fun y hy => ?_⟩
    · rw [← hn, numAt_eq]
      exact PySem.getD_mem (by rw [List.length_map, Array.length_toList]; omega)
    · rw [← hn] at hy
      obtain ⟨j, hj, rfl⟩ := mem_getD hy
      rw [List.length_map, Array.length_toList] at hj
      rw [← numAt_eq]
      exact h2 j (by omega)
end
end L2.My
end
section
set_option Elab.async false
set_option linter.all false
set_option maxRecDepth 100000
set_option maxHeartbeats 4000000
namespace L2.My
open PySem PySem.Spec PyProof.Rows
theorem same_upd {H : Hp} {p : Addr} {o : HO} (h : H p = none) : Same H (upd H p o) := fun b x e => by
  rw [upd_ne (ne_of_none e h)]
  exact e
theorem keep_ne {H : Hp} {p : Addr} {o : HO} {b : Addr} {x : HO} (h : H p = none) (e : H b = some x) : (upd H p o) b = some x := same_upd h _ _ e
theorem cutTo (xs : List V) (n : Nat) : cutV xs none (some (n : Int)) = xs.take n := by
  unfold cutV
  rw [HT.sIx_none, HT.sIx_nat]
  rw [List.drop_zero, Nat.sub_zero]
  rw [← List.take_eq_take_min]
theorem ixN_zero {n : Nat} (h : 0 < n) : ixN n 0 = some 0 := by
  unfold ixN
  rw [if_pos (by omega), if_pos (by omega)]
  rfl
theorem mod_in {x m : Int} (h : 0 < m) : 0 ≤ x % m ∧ x % m < m := ⟨Int.emod_nonneg _ (by omega), Int.emod_lt_of_pos _ h⟩
inductive ThT (H : Hp) : V → String → Prop where
  | non : ThT H .non "NoneType"
  | bl (b : Bool) : ThT H (.bl b) "bool"
  | int (i : Int) : ThT H (.int i) "int"
  | str (x : Str) : ThT H (.str x) "str"
  | lst {a : Addr} {xs : List V} (h : H a = some (.lst xs)) : ThT H (.ref a) "list"
  | tup {a : Addr} {xs : List V} (h : H a = some (.tup xs)) : ThT H (.ref a) "tuple"
  | dct {a : Addr} {kvs : List (Key × V)} (h : H a = some (.dK kvs)) : ThT H (.ref a) "dict"
def instT (t n : String) : Bool := t == n || (t == "bool" && n == "int")
theorem ThT.tyX {K : PySem.W.Frag} {H : Hp} {v : V} {t : String} (h : ThT H v t) : TyX K H v (.type t) := by
  cases h with
  | non => exact .base .non
  | bl b => exact .base (.bl b)
  | int i => exact .base (.int i)
  | str x => exact .base (.str x)
  | lst h => exact .base (.lst h)
  | tup h => exact .base (.tup h)
  | dct h => exact .base (.dK h)
theorem kitB_all : ∀ t ∈ ["NoneType", "bool", "int", "str", "list", "tuple", "dict"], ∀ n ∈ ["bool", "int", "str", "list", "tuple", "dict"], kitB t n = some (instT t n) := by decide +kernel
theorem ThT.mem {H : Hp} {v : V} {t : String} (h : ThT H v t) : t ∈ ["NoneType", "bool", "int", "str", "list", "tuple", "dict"] := by
  cases h <;> decide
theorem ThT.keep {H H' : Hp} {v : V} {t : String} (h : ThT H v t) (s : Same H H') : ThT H' v t := by
  cases h with
  | non => exact .non
  | bl b => exact .bl b
  | int i => exact .int i
  | str x => exact .str x
  | lst h => exact .lst (s _ _ h)
  | tup h => exact .tup (s _ _ h)
  | dct h => exact .dct (s _ _ h)
def rIsTh : List V → Hp → VK → Prop := fun xs H Q => ∃ v n t, xs = [v, .ty n] ∧ ThT H v t ∧ n ∈ ["bool", "int", "str", "list", "tuple", "dict"] ∧ Q (.bl (instT t n)) H
theorem call_isTh {X : Cx} : CallR X (.builtin "isinstance") rIsTh := by
  intro pins s σ H xs us Q I r h
  obtain ⟨v, n, t, rfl, ht, hn, q⟩ := h
  exact call_isi pins s σ H _ us Q I r ⟨_, _, _, _, _, rfl, .ty _, ht.tyX, kit_ty (kitB_all t ht.mem n hn), q⟩
def belowV (n : Int) : V → Bool
  | .int i => decide (0 ≤ i ∧ i < n)
  | _ => false
theorem lt1 (a b : Nat) : decide (([a] : List Nat) < [b]) = decide (a < b) := by
  by_cases h : a < b
  · rw [decide_eq_true h, decide_eq_true (by exact List.Lex.rel h)]
  · rw [decide_eq_false h]
    refine decide_eq_false fun z => ?_
    rcases (List.cons_lt_cons_iff.mp z) with z | z
    · exact h z
    · exact absurd z.2 (by simp)
theorem seq_set {te : TE} {i : Nat} {u : TS} {D : Ends} {σ : St} {H : Hp} (h : te σ H fun v H1 => u D (σ.set i (some v)) H1) : tSeq (tAsg te (gName i)) u D σ H := h
theorem seq_par3 {ta : TA} {i j l : Nat} {u : TS} {D : Ends} {σ : St} {H : Hp} (h : ta σ H fun vs H1 => ∃ x y z, vs = [x, y, z] ∧ u D (((σ.set i (some x)).set j (some y)).set l (some z)) H1) : tSeq (tPar3 i j l ta) u D σ H := h
theorem seq_par {ta : TA} {i j : Nat} {u : TS} {D : Ends} {σ : St} {H : Hp} (h : ta σ H fun vs H1 => ∃ x y, vs = [x, y] ∧ u D ((σ.set i (some x)).set j (some y)) H1) : tSeq (tPar i j ta) u D σ H := h
theorem ret_of {te : TE} {D : Ends} {σ : St} {H : Hp} (h : te σ H D.rt) : tRet te D σ H := h
theorem lst_of {ta : TA} {σ : St} {H : Hp} {Q : VK} (h : ta σ H fun xs H1 => xs.length ≤ sizeLine ∧ ∀ p, H1 p = none → Q (.ref p) (upd H1 p (.lst xs))) : tLst ta σ H Q := h
theorem tup_of {ta : TA} {σ : St} {H : Hp} {Q : VK} (h : ta σ H fun xs H1 => xs.length ≤ sizeLine ∧ ∀ p, H1 p = none → Q (.ref p) (upd H1 p (.tup xs))) : tTup ta σ H Q := h
theorem cons_of {te : TE} {ta : TA} {σ : St} {H : Hp} {Q : List V → Hp → Prop} (h : te σ H fun x H1 => ta σ H1 fun xs H2 => Q (x :: xs) H2) : tCons te ta σ H Q := h
theorem nil_of {σ : St} {H : Hp} {Q : List V → Hp → Prop} (h : Q [] H) : tNil σ H Q := h
section
variable {J : It} {n : Nat} {G : Hp → Prop} {Y : Nat → Hp → V → Hp → Prop}
def CompOut (J : It) (g : TG) (tt : TT) (te : TE) (vs : List Nat) (σ : St) (D : Addr) (Qd : Hp → Prop) (H1 : Hp) : Prop :=
    ∃ W : Nat → Nat → Hp → Prop, (∃ m, W 0 m (upd H1 D (.lst []))) ∧ ∀ i m H, W i m H →
      (J.stop i H ∧ Qd H) ∨ (J.go i H ∧ ∃ Nx : Hp → Prop, (∀ H', Nx H' → ∃ m', m' < m ∧ W (i + 1) m' H') ∧ ∀ x H', J.yld i H x H' → g x (wipe σ vs) H' fun σ2 H2 => wipe σ2 vs = wipe σ vs ∧ tt σ2 H2 fun b H3 =>
        if b = true then te σ2 H3 fun y H4 => ∃ acc, H4 D = some (.lst acc) ∧ acc.length < sizeLine ∧ Nx (upd H4 D (.lst (acc ++ [y]))) else Nx H3)
theorem range_map_snoc {α : Type} (f : Nat → α) (i : Nat) : (List.range i).map f ++ [f i] = (List.range (i + 1)).map f := by
  rw [List.range_succ, List.map_append]; rfl
theorem range_fm_snoc {α : Type} (f : Nat → Option α) (i : Nat) {v : α} (h : f i = some v) : (List.range i).filterMap f ++ [v] = (List.range (i + 1)).filterMap f := by
  rw [List.range_succ, List.filterMap_append]; simp [h]
theorem range_fm_skip {α : Type} (f : Nat → Option α) (i : Nat) (h : f i = none) : (List.range i).filterMap f = (List.range (i + 1)).filterMap f := by
  rw [List.range_succ, List.filterMap_append]; simp [h]
theorem same_grow {H H4 H1 : Hp} {D : Addr} {o : HO} (s : Same H H4) (hD : H1 D = none) (s1 : Same H1 H) : Same H1 (upd H4 D o) := fun b u e => by
  rw [upd_ne (ne_of_none e hD)]
  exact s _ _ (s1 _ _ e)
theorem lcP (w : Walk J n G Y) {g : TG} {te : TE} {vs : List Nat} {σ : St} {H1 : Hp} {D : Addr} {Qd : Hp → Prop} (fv : Nat → V) (hn : n < sizeLine) (hD : H1 D = none) (hG : ∀ H', Same H1 H' → G H')
    (hs : ∀ i x H H' (Q' : VK), i < n → Same H1 H → Y i H x H' → (∀ H4, Same H H4 → Q' (fv i) H4) → g x (wipe σ vs) H' fun σ2 H2 => wipe σ2 vs = wipe σ vs ∧ te σ2 H2 Q')
    (hd : ∀ H, Same H1 H → H D = some (.lst ((List.range n).map fv)) → Qd H) : CompOut J g tYes te vs σ D Qd H1 := by
  refine lc_it w (tt := tYes) (fun i H => Same H1 H ∧ H D = some (.lst ((List.range i).map fv))) ⟨same_upd hD, upd_same⟩ (fun i H _ h => hG H h.1) ?_ (fun H h => hd H h.1 h.2)
  rintro i x H H' hi ⟨sm, hd'⟩ y
  have q := hs i x H H' (fun v H4 => ∃ acc, H4 D = some (.lst acc) ∧ acc.length < sizeLine ∧ Same H1 (upd H4 D (.lst (acc ++ [v]))) ∧ (upd H4 D (.lst (acc ++ [v]))) D = some (.lst ((List.range (i + 1)).map fv))) hi sm y
    (fun H4 s4 => ⟨_, s4 _ _ hd', by rw [List.length_map, List.length_range]; omega, same_grow s4 hD sm, by rw [upd_same, range_map_snoc]⟩)
  exact q
theorem lcF (w : Walk J n G Y) {g : TG} {tt : TT} {te : TE} {vs : List Nat} {σ : St} {H1 : Hp} {D : Addr} {Qd : Hp → Prop} (fv : Nat → Option V) (hn : n < sizeLine) (hD : H1 D = none) (hG : ∀ H', Same H1 H' → G H')
    (hs : ∀ i x H H' (Q' : VK) (N' : Hp → Prop), i < n → Same H1 H → Y i H x H' → (∀ v, fv i = some v → ∀ H4, Same H H4 → Q' v H4) → (fv i = none → ∀ H4, Same H H4 → N' H4) →
      g x (wipe σ vs) H' fun σ2 H2 => wipe σ2 vs = wipe σ vs ∧ tt σ2 H2 fun b H3 => if b = true then te σ2 H3 Q' else N' H3)
    (hd : ∀ H, Same H1 H → H D = some (.lst ((List.range n).filterMap fv)) → Qd H) : CompOut J g tt te vs σ D Qd H1 := by
  refine lc_it w (fun i H => Same H1 H ∧ H D = some (.lst ((List.range i).filterMap fv))) ⟨same_upd hD, upd_same⟩ (fun i H _ h => hG H h.1) ?_ (fun H h => hd H h.1 h.2)
  rintro i x H H' hi ⟨sm, hd'⟩ y
  have hl : ((List.range i).filterMap fv).length < sizeLine := by
    have := List.length_filterMap_le fv (List.range i)
    rw [List.length_range] at this
    omega
  have q := hs i x H H' (fun v H4 => ∃ acc, H4 D = some (.lst acc) ∧ acc.length < sizeLine ∧ Same H1 (upd H4 D (.lst (acc ++ [v]))) ∧ (upd H4 D (.lst (acc ++ [v]))) D = some (.lst ((List.range (i + 1)).filterMap fv)))
    (fun H4 => Same H1 H4 ∧ H4 D = some (.lst ((List.range (i + 1)).filterMap fv))) hi sm y
    (fun v hv H4 s4 => ⟨_, s4 _ _ hd', hl, same_grow s4 hD sm, by rw [upd_same, range_fm_snoc fv i hv]⟩) (fun hv H4 s4 => ⟨sm.trans s4, by rw [← range_fm_skip fv i hv]; exact s4 _ _ hd'⟩)
  exact q
end
def BL (L : List Addr) (H H' : Hp) : Prop := ∀ p o, p ∉ L → H p = some o → H' p = some o
theorem BL.refl {L : List Addr} {H : Hp} : BL L H H := fun _ _ _ h => h
theorem BL.trans {L : List Addr} {H H1 H2 : Hp} (x : BL L H H1) (y : BL L H1 H2) : BL L H H2 := fun p o h e => y p o h (x p o h e)
theorem BL.same {L : List Addr} {H H' : Hp} (s : Same H H') : BL L H H' := fun p o _ e => s _ _ e
theorem BL.upd {L : List Addr} {H : Hp} {p : Addr} {o : HO} (h : p ∈ L) : BL L H (upd H p o) := fun q u hq e => by
  rw [upd_ne (fun z => hq (by rw [z]; exact h))]; exact e
theorem u65 {k : Nat} {A : Around} (h : Room k A) : A.units + 65 < cLine := by have := h.un; omega
theorem u1 {k : Nat} {A : Around} (h : Room k A) : A.units + 1 < cLine := by have := h.un; omega
def kD : Key → PyData
  | .inl i => .int i
  | .inr x => .str x
def pD (ks : List Key) : PyData := .tuple (ks.map kD)
theorem eqvAll_map {α : Type} [DecidableEq α] {f : α → PyData} (h : ∀ a b, PyData.eqv (f a) (f b) = decide (a = b)) : ∀ xs ys : List α, PyData.eqvAll (xs.map f) (ys.map f) = decide (xs = ys)
  | [], [] => by simp [PyData.eqvAll]
  | [], y :: ys => by simp [PyData.eqvAll]
  | x :: xs, [] => by simp [PyData.eqvAll]
  | x :: xs, y :: ys => by
    rw [List.map_cons, List.map_cons, PyData.eqvAll, h, eqvAll_map h xs ys]
    by_cases h1 : x = y
    · by_cases h2 : xs = ys
      · simp [h1, h2]
      · simp [h1, h2]
    · simp [h1]
theorem eqv_k (a b : Key) : PyData.eqv (kD a) (kD b) = decide (a = b) := by
  cases a with
  | inl i => cases b with
    | inl j =>
      show PyData.eqv (.int i) (.int j) = _
      rw [PyData.eqv]
      by_cases h : i = j
      · subst h; simp
      · have : ¬ (Sum.inl i : Key) = Sum.inl j := fun z => h (Sum.inl.inj z)
        rw [decide_eq_false this]; simp [h]
    | inr y =>
      show PyData.eqv (.int i) (.str y) = _
      rw [decide_eq_false (fun z => nomatch z)]; simp [PyData.eqv]
  | inr x => cases b with
    | inl j =>
      show PyData.eqv (.str x) (.int j) = _
      rw [decide_eq_false (fun z => nomatch z)]; simp [PyData.eqv]
    | inr y =>
      show PyData.eqv (.str x) (.str y) = _
      rw [PyData.eqv]
      by_cases h : x = y
      · subst h; simp
      · have : ¬ (Sum.inr x : Key) = Sum.inr y := fun z => h (Sum.inr.inj z)
        rw [decide_eq_false this]; exact beq_eq_false_iff_ne.mpr h
theorem eqv_p (a b : List Key) : PyData.eqv (pD a) (pD b) = decide (a = b) := by
  unfold pD
  rw [PyData.eqv]
  exact eqvAll_map eqv_k a b
theorem eqv_s (x y : Str) : PyData.eqv (.str x) (.str y) = decide (x = y) := by
  have := eqv_k (.inr x) (.inr y)
  rw [show PyData.eqv (.str x) (.str y) = PyData.eqv (kD (.inr x)) (kD (.inr y)) from rfl, this]
  exact key_rr x y
def rLen (K : PySem.W.Frag) : List V → Hp → VK → Prop := fun xs H Q => ∃ p ys, xs = [.ref p] ∧ (SqL K H p ys ∨ SqT K H p ys) ∧ Q (.int ys.length) H
theorem can_map {α : Type} {f : α → PyData} : ∀ {xs : List α}, (∀ x ∈ xs, PyData.canLay0 (f x) = true) → PyData.canLayAll0 (xs.map f) = true
  | [], _ => by simp [PyData.canLayAll0]
  | x :: r, h => by
    have := can_map (f := f) (xs := r) fun y hy => h y (List.mem_cons_of_mem _ hy)
    simp [PyData.canLayAll0, this, h x List.mem_cons_self]
theorem dep_map {α : Type} {f : α → PyData} {n : Nat} (h : ∀ x, PyData.depth (f x) ≤ n) : ∀ xs : List α, PyData.depthAll (xs.map f) ≤ n
  | [] => by simp [PyData.depthAll]
  | x :: r => by
    have h1 := dep_map h r
    have h2 := h x
    simp only [List.map_cons, PyData.depthAll]
    omega
theorem shaped_list {α : Type} {f : α → PyData} {n : Nat} (hn : n < 64) (hd : ∀ x, PyData.depth (f x) ≤ n) {xs : List α} (hc : ∀ x ∈ xs, PyData.canLay0 (f x) = true) : SeqAt.shaped (.list (xs.map f)) = true := by
  have h1 := can_map hc
  have h2 := dep_map hd xs
  simp only [SeqAt.shaped, PyData.canLay0, PyData.depth, Bool.and_eq_true, decide_eq_true_eq]
  exact ⟨h1, decide_eq_true (by omega)⟩
theorem shaped_ints (xs : List Int) : SeqAt.shaped (.list (xs.map .int)) = true := shaped_list (n := 1) (by decide) (fun x => by simp [PyData.depth]) fun e he => by simp [PyData.canLay0]
theorem dp_ints {K : PySem.W.Frag} {H : Hp} : ∀ xs : List Int, DpAll K H (xs.map .int) (xs.map .int)
  | [] => .nil
  | x :: r => .cons (.int x) (dp_ints r)
theorem seqT {K : PySem.W.Frag} {H H' : Hp} {a : Addr} {xs : List V} (e : Same H H') (h : SqT K H a xs) : SqT K H' a xs := by
  rcases h with (h | ⟨o, h⟩) | h
  · exact .inl (.inl (e _ _ h))
  · exact .inl (.inr ⟨o, e _ _ h⟩)
  · exact .inr h
end L2.My
end
section
set_option Elab.async false
set_option linter.all false
set_option maxRecDepth 100000
set_option maxHeartbeats 4000000
/-! enumerate of a tuple, of a dict; setdefault and comprehensions of dicts with tuple keys. -/
namespace PySem
open PySem.Spec PyProof.Rows
section
variable {prog : Program} {w : World} {A : Around} {E : Value → Shared → Prop} {s : Shared}
/-- the next key of a dict's iterator, as another iterator draws it -/
theorem my_keyNext {it d : Addr} {i n ep : Nat} {od : Obj} {es : Array DictEntry} {en : DictEntry} {Q : Value → Shared → Prop} (hit : s.heap.IsKeyIter it d i n ep) (hod : s.heap.get? d = some od) (hdd : od.data = .dict es ep)
    (hsz : es.size = n) (hx : es[i]? = some en) (hQ : ∀ h', h'.IsKeyIter it d (i + 1) n ep → Heap.SameBut it s.heap h' → Q en.key { s with heap := h' }) : wpAny (model prog w) A (Builtin.SmallTypes.nextOf (.ref it)) Q E s := by
  obtain ⟨o, ho, hc, hd⟩ := id hit
  unfold Builtin.SmallTypes.nextOf
  refine wpAny_bind (wpAny_callSpecial?_slot (name := Str.ofString "__next__") hit.typeIs F.slot_dict_keyiterator_next (wpAny_call_entry F.slot_dict_keyiterator_next hit.typeIs F.entry_dict_keyiterator_next ?_ (F.args_dict_keyiterator_next_1 _)))
  refine wpAny_bind (wpAny_pure (wpAny_bind (wpAny_bind ?_)))
  first | refine wpAny_bind (wpAny_typeNameOfWhole_keyiter hit.typeIs (wpAny_pure (wpAny_bind (wpAny_fieldsOf ho hd ?_)))) | refine wpAny_bind (wpAny_typeNameOf_keyiter hit.typeIs (wpAny_pure (wpAny_bind (wpAny_fieldsOf ho hd ?_))))
  have own : Builtin.Dict_items.ownsTuple "dict_keyiterator" = false := by decide
  simp only [own, Bool.false_eq_true, if_false]
  show wpAny _ _ (if (Value.ref d == Value.none) = true then _ else _) _ _ _
  rw [if_neg (show ¬ (Value.ref d == Value.none) = true from fun z => nomatch z)]
  refine wpAny_bind (wpAny_pure (wpAny_bind (wpAny_dictEntries hod hdd ?_)))
  rw [if_neg (by simp [hsz])]
  refine wpAny_bind (wpAny_pure (wpAny_bind (wpAny_dictEpoch hod hdd ?_)))
  rw [if_neg (by simp)]
  refine wpAny_pure ?_
  obtain ⟨lt, hen⟩ := Array.getElem?_eq_some_iff.mp hx
  simp only [show ¬ ((i : Int) < 0) by omega, if_false, Int.toNat_natCast, Array.getElem?_eq_getElem lt]
  refine wpAny_bind ?_
  first | refine wpAny_bind (wpAny_typeNameOfWhole_keyiter hit.typeIs (wpAny_pure (wpAny_bind (wpAny_isOneOf_keyiter hit.typeIs ?_)))) | refine wpAny_bind (wpAny_typeNameOf_keyiter hit.typeIs (wpAny_pure (wpAny_bind (wpAny_isOneOf_keyiter hit.typeIs ?_))))
  show wpAny _ _ (setField (.ref it) 1 (rawInt ((i : Int) + 1)) >>= _) _ _ _
  refine wpAny_bind (wpAny_setField ho hd (by simp) ?_)
  have hit2 : (s.heap.update it (Obj.mapFields (·.setIfInBounds 1 (rawInt ((i : Int) + 1))))).IsKeyIter it d (i + 1) n ep := ⟨_, Heap.get?_update_self _ ho (Obj.isFreed_of_fields (Obj.data_mapFields hd _)), (Obj.cls_mapFields ..).trans hc, by rw [Obj.data_mapFields hd]; simp [rawInt]⟩
  refine wpAny_bind (wpAny_holding (wpAny_bind (wpAny_isOneOf_keyiter (s := { s with heap := s.heap.update it (Obj.mapFields (·.setIfInBounds 1 (rawInt ((i : Int) + 1)))) }) hit2.typeIs ?_)))
  show wpAny _ _ (pure es[i].key) _ _ _
  rw [hen]
  exact wpAny_pure (wpAny_pure ⟨_, rfl, wpAny_pure (hQ _ hit2 (Heap.SameBut.update ..))⟩)
theorem my_keyEnd {it d : Addr} {i n ep : Nat} {od : Obj} {es : Array DictEntry} {Q : Value → Shared → Prop} (hh : A.handled = none) (hit : s.heap.IsKeyIter it d i n ep) (hod : s.heap.get? d = some od) (hdd : od.data = .dict es ep)
    (hsz : es.size = n) (hge : n ≤ i) (hE : ∀ h' e, Heap.ExtBut it s.heap h' → (∃ o, h'.get? e = some o ∧ o.cls = .type "StopIteration") → E (.ref e) { s with heap := h' }) : wpAny (model prog w) A (Builtin.SmallTypes.nextOf (.ref it)) Q E s := by
  obtain ⟨o, ho, hc, hd⟩ := id hit
  unfold Builtin.SmallTypes.nextOf
  refine wpAny_bind (wpAny_callSpecial?_slot (name := Str.ofString "__next__") hit.typeIs F.slot_dict_keyiterator_next (wpAny_call_entry F.slot_dict_keyiterator_next hit.typeIs F.entry_dict_keyiterator_next ?_ (F.args_dict_keyiterator_next_1 _)))
  refine wpAny_bind (wpAny_pure (wpAny_bind (wpAny_bind ?_)))
  first | refine wpAny_bind (wpAny_typeNameOfWhole_keyiter hit.typeIs (wpAny_pure (wpAny_bind (wpAny_fieldsOf ho hd ?_)))) | refine wpAny_bind (wpAny_typeNameOf_keyiter hit.typeIs (wpAny_pure (wpAny_bind (wpAny_fieldsOf ho hd ?_))))
  have own : Builtin.Dict_items.ownsTuple "dict_keyiterator" = false := by decide
  simp only [own, Bool.false_eq_true, if_false]
  show wpAny _ _ (if (Value.ref d == Value.none) = true then _ else _) _ _ _
  rw [if_neg (show ¬ (Value.ref d == Value.none) = true from fun z => nomatch z)]
  refine wpAny_bind (wpAny_pure (wpAny_bind (wpAny_dictEntries hod hdd ?_)))
  rw [if_neg (by simp [hsz])]
  refine wpAny_bind (wpAny_pure (wpAny_bind (wpAny_dictEpoch hod hdd ?_)))
  rw [if_neg (by simp)]
  refine wpAny_pure ?_
  have ge2 : es.size ≤ i := by omega
  simp only [show ¬ ((i : Int) < 0) by omega, if_false, Int.toNat_natCast, Array.getElem?_eq_none ge2]
  refine wpAny_bind ?_
  first | refine wpAny_bind (wpAny_typeNameOfWhole_keyiter hit.typeIs (wpAny_pure ?_)) | refine wpAny_bind (wpAny_typeNameOf_keyiter hit.typeIs (wpAny_pure ?_))
  show wpAny _ _ (setField (.ref it) 0 .none >>= _) _ _ _
  refine wpAny_bind (wpAny_setField ho hd (by simp) ?_)
  show wpAny _ _ (newExc (.type "StopIteration") [] >>= _) _ _ _
  simp only [newExc, newTuple]
  refine wpAny_bind (wpAny_bind (wpAny_newObj_type ?_ (by size_fits)))
  refine wpAny_bind (m := firstArgMember _ _) (wpAny_of_eq (a := Value.none) (by first | rfl | (simp only [firstArgMember]; rfl)) (wpAny_newObj_type ?_ (by size_fits)))
  simp only [raiseNew]
  refine wpAny_bind (wpAny_handled ?_)
  first | rw [show A.in1.handled = none from hh] | rw [hh]
  refine wpAny_bind (wpAny_pure (wpAny_throw ?_))
  exact hE _ _ (((Heap.SameBut.update ..).extBut.push _).push _) ⟨_, Heap.get?_push_size _ rfl, rfl⟩
end
theorem my_drawKeys {prog : Program} {w : World} {A : Around} (hh : A.handled = none) (it d : Addr) (hne : d ≠ it) (od : Obj) (es : Array DictEntry) (ep : Nat) (hdd : od.data = .dict es ep) :
    Draws prog w A it [it, d] es.size (fun i v => ∃ en, es[i]? = some en ∧ v = en.key) (fun i h => h.IsKeyIter it d i es.size ep ∧ h.get? d = some od) where
  live := fun _ _ st => let ⟨o, ho, _⟩ := st.1; ⟨o, ho⟩
  frame := fun _ _ _ st hk => ⟨st.1.at fun o e => hk it (by simp) o e, hk d (by simp) _ st.2⟩
  item := fun i s Q E hi st hQ => my_keyNext st.1 st.2 hdd rfl (en := es[i]) (by simp [hi]) fun h' hit' hs' => hQ _ h' s.toks ⟨es[i], by simp [hi], rfl⟩ ⟨hit', (hs'.2 d hne).trans st.2⟩ hs'
  done := fun s Q E st hE => my_keyEnd hh st.1 st.2 hdd rfl (Nat.le_refl _) hE
set_option maxHeartbeats 1000000 in
theorem my_enumNew {v : Value} {o : Obj} {H : Heap → Prop} (B : Begins v o H) :
    Meets (Builtin.«enumerate.__new__» ⟨[.type "enumerate", v], []⟩) (fun _ R s => H s.heap ∧ R (.ok (.ret (.ref (s.heap.push o).objs.size))) { s with heap := (s.heap.push o).push { cls := .type "enumerate", data := .fields #[.none, .bool false, .ref s.heap.objs.size, rawInt 0, .none, .none] } }) :=
  .of_wp fun prog w A R s h => by
    obtain ⟨hp, g, dr, tk, os⟩ := s
    obtain ⟨h1, h⟩ := h
    have hsub := sub_enumerate
    have q1 : ∀ {A' : Around} {E Q : Value → Shared → Prop}, Q (.ref hp.objs.size) ⟨hp.push o, g, dr, tk, os⟩ → wpAny (model prog w) A' (pyIter v) Q E ⟨hp, g, dr, tk, os⟩ := fun q => B.iter prog w _ _ ⟨hp, g, dr, tk, os⟩ _ h1 q
    wp_walk using q1
    refine wpAny_stack_any fun _ => wpAny_pure ?_
    split
    · rename_i c _ _ _ _ _
      cases (c == Value.type "enumerate") <;> (wp_walk using q1; exact ⟨_, rfl, h⟩)
    · wp_walk using q1; exact ⟨_, rfl, h⟩
theorem my_enum {prog : Program} {w : World} {A : Around} {E : Value → Shared → Prop} {s : Shared} {v : Value} {o : Obj} {H : Heap → Prop} {Q : Value → Shared → Prop} (B : Begins v o H) (h1 : H s.heap)
    (h : ∀ h', IsEnum h' (s.heap.objs.size + 1) s.heap.objs.size 0 .none → h'.get? s.heap.objs.size = some o → (∀ b o, s.heap.get? b = some o → h'.get? b = some o) → Q (.ref (s.heap.objs.size + 1)) { s with heap := h' }) :
    wpAny (model prog w) A (call (.type "enumerate") [v]) Q E s := by
  refine callType_new F.called_enumerate (by decide) (F.typeCall_enumerate_1 _) (F.newCall_enumerate_1 _) (fun obj => F.args_object_init_2 obj _) F.entry_enumerate_new (my_enumNew B) ⟨h1, ?_⟩
  have hz : (s.heap.push o).objs.size = s.heap.objs.size + 1 := Heap.size_push ..
  have he := Heap.get?_push_size (s.heap.push o) (o := { cls := .type "enumerate", data := .fields #[.none, .bool false, .ref s.heap.objs.size, rawInt 0, .none, .none] }) rfl
  show _ ∧ _
  rw [hz] at he ⊢
  exact ⟨⟨_, he, rfl⟩, h _ he (Heap.get?_push_of_some _ (Heap.get?_push_size _ B.free)) fun b o x => Heap.get?_push_of_some _ (Heap.get?_push_of_some _ x)⟩
end PySem
end
section
set_option Elab.async false
set_option linter.all false
set_option maxRecDepth 100000
set_option maxHeartbeats 4000000
namespace L2.My
open PySem PySem.Spec PyProof.Rows
/-- the tuple at a, counted, each item in a new pair -/
def IteT (K : PySem.W.Frag) (a : Addr) : It :=
  ⟨fun i H => ∃ (xs : List V) (x : V), SqT K H a xs ∧ xs[i]? = some x, fun i H v H' => ∃ T x, v = .ref T ∧ H T = none ∧ H' = upd H T (.tup [.int (i : Nat), x]) ∧ ∀ xs, SqT K H a xs → xs[i]? = some x, fun i H => ∃ xs : List V, SqT K H a xs ∧ xs.length = i⟩
/-- the keys of the locked dict at d, counted -/
def IteK (d : Addr) (od : Obj) (kvs : List (List Key × V)) : It :=
  ⟨fun i H => H d = some (.frz od (.dT kvs)) ∧ i < kvs.length, fun i H v H' => ∃ T q k x, v = .ref T ∧ H T = none ∧ H' = upd H T (.tup [.int (i : Nat), .ref q]) ∧ kvs[i]? = some (k, x) ∧ H q = some (.tup (k.map kV)), fun i H => H d = some (.frz od (.dT kvs)) ∧ kvs.length = i⟩
section
variable {P : Program} {w : World} {K : PySem.W.Frag} {elts : List Expr} {kk : Nat} {tpos : Pos}
theorem turn_enT (a e it : Addr) : Turn P w K (.Tuple elts kk tpos) (IteT K a) [e, it] e (fun i h => (∃ old, IsEnum h e it ((i : Nat) : Int) old) ∧ h.IsTupleIter it a i ∧ e ≠ it ∧ a ≠ it ∧ a ≠ e) where
  mem := by simp
  obj := fun i h st b hb => by
    obtain ⟨⟨old, he⟩, ⟨o, ho, hc, hd⟩, _⟩ := st
    rcases (show b = e ∨ b = it by simpa using hb) with rfl | rfl
    · exact ⟨_, he, fun v q => nomatch q⟩
    · exact ⟨o, ho, fun v q => by rw [hd] at q; cases q⟩
  keep := fun i h h' st k => let ⟨⟨old, he⟩, hi, r⟩ := st; ⟨⟨old, k e (by simp) _ he⟩, hi.at fun o q => k it (by simp) o q, r⟩
  item := by
    intro X hP hw hK hc i pins s σ H E I hf st hg
    subst hP hw hK
    obtain ⟨⟨old, he⟩, hit, hne, hai, hae⟩ := st
    obtain ⟨xs, x, hq, hx⟩ := hg
    obtain ⟨its, rv, p, hz⟩ := I.tuple hq
    obtain ⟨u, hu, ru⟩ := rv.get hx
    have hel : e < s.heap.objs.size := Heap.lt_size he
    have hil : it < s.heap.objs.size := by obtain ⟨_, q, _⟩ := hit; exact Heap.lt_size q
    have lt : i < its.toArray.size := by
      have := (List.getElem?_eq_some_iff.mp hu).1
      simpa using this
    refine wpAny_pyNext_enum_itemC (Draws.tuple (prog := X.prog) (w := X.w) (A := X.A.in1) (I.ok.hd hc) it a hai its.toArray) he ⟨hit, p⟩ lt hne (by simp [hne, Ne.symm hae]) fun y h' tk hP ho hs' hT hsz hk => ?_
    obtain rfl : y = u := by
      have z : its.toArray[i]? = some u := by simpa using hu
      exact Option.some.inj (hP.symm.trans z)
    refine ⟨_, rfl, wpAny_letOwnedTupleGo_enum (s := { s with heap := h', toks := tk + 1 }) ho fun h2 he2 sb => ?_⟩
    have hT2 : h2.get? s.heap.objs.size = some { cls := .type "tuple", data := .seq #[.int i tk, y] } := (sb.2 _ (Nat.ne_of_gt hel)).trans hT
    have new : ObjOk X.prog X.w (upd H s.heap.objs.size (.tup [.int (i : Nat), x])) h2 s.heap.objs.size (.tup [.int (i : Nat), x]) := ⟨by show 2 ≤ sizeLine; decide, [.int i tk, y], .cons ⟨_, rfl⟩ (.cons ru .nil), ⟨_, hT2, rfl, _, rfl⟩⟩
    have I1 : Inv X pins σ (upd H s.heap.objs.size (.tup [.int (i : Nat), x])) { s with heap := h2, toks := tk + 1 } :=
      I.turnedNew (t' := tk + 1) (ch := [e, it]) (fun b ob hb q => (sb.2 b (fun z => hb (by simp [z]))).trans (hk b ob (fun z => hb (by simp [z])) (fun z => hb (by simp [z])) q)) hf (Nat.le_refl _) new
    refine ⟨.ref s.heap.objs.size, _, I1, rfl, ⟨_, x, rfl, I.hok.fresh (Nat.le_refl _), rfl, fun ys hy => by rw [I.tuple_inj hy hq]; exact hx⟩, ⟨⟨y, ?_⟩, hs'.1.at fun o q => (sb.2 it (Ne.symm hne)).trans q, hne, hai, hae⟩, fun b hb => ?_⟩
    · have e1 : ((i + 1 : Nat) : Int) = (i : Int) + 1 := by omega
      rw [e1]; exact he2
    · have hb' : b < s.heap.objs.size := by
        rcases (show b = e ∨ b = it by simpa using hb) with rfl | rfl
        · exact hel
        · exact hil
      rw [upd_ne (Nat.ne_of_lt hb')]
      exact (hf b hb).1
  done := by
    intro X hP hw hK hc i pins s σ H E I hf st hg
    subst hP hw hK
    obtain ⟨⟨old, he⟩, hit, hne, hai, hae⟩ := st
    obtain ⟨xs, hq, hx⟩ := hg
    obtain ⟨its, rv, p, hz⟩ := I.tuple hq
    obtain ⟨f0, f1, f2, f3, f4, f5⟩ := hf it (by simp)
    have hl := rv.length
    have ei : its.toArray.size = i := by simp; omega
    subst ei
    exact wpAny_pyNext_enum_endD (Draws.tuple (prog := X.prog) (w := X.w) (A := X.A.in1) (I.ok.hd hc) it a hai its.toArray) he ⟨hit, p⟩ fun h' eb => ⟨rfl, I.turned (t' := s.toks) (fun b o hb q => eb b o hb q) f0 f1 f3 f4 f5⟩
  self := fun A i s Q E st h => let ⟨⟨_, he⟩, _⟩ := st; wpAny_pyIter_enum he h
theorem turn_enK {d : Addr} {od : Obj} {es : Array DictEntry} {ep : Nat} {kvs : List (List Key × V)} (hdd : od.data = .dict es ep) (hsz : es.size = kvs.length) (e it : Addr) : Turn P w K (.Tuple elts kk tpos) (IteK d od kvs) [e, it] e (fun i h => (∃ old, IsEnum h e it ((i : Nat) : Int) old) ∧ h.IsKeyIter it d i es.size ep ∧ e ≠ it ∧ d ≠ it ∧ d ≠ e) where
  mem := by simp
  obj := fun i h st b hb => by
    obtain ⟨⟨old, he⟩, ⟨o, ho, hc, hd⟩, _⟩ := st
    rcases (show b = e ∨ b = it by simpa using hb) with rfl | rfl
    · exact ⟨_, he, fun v q => nomatch q⟩
    · exact ⟨o, ho, fun v q => by rw [hd] at q; cases q⟩
  keep := fun i h h' st k => let ⟨⟨old, he⟩, hi, r⟩ := st; ⟨⟨old, k e (by simp) _ he⟩, hi.at fun o q => k it (by simp) o q, r⟩
  item := by
    intro X hP hw hK hc i pins s σ H E I hf st hg
    subst hP hw hK
    obtain ⟨⟨old, he⟩, hit, hne, hai, hae⟩ := st
    obtain ⟨hd, hi⟩ := hg
    obtain ⟨hs, hgd, hx, es', ep', hdt, hsz', ent⟩ := I.frzT hd
    obtain ⟨ee1, ee2⟩ := dict_ep hdt hdd
    subst ee1 ee2
    obtain ⟨⟨k, x⟩, hkv⟩ : ∃ p, kvs[i]? = some p := ⟨kvs[i], List.getElem?_eq_getElem hi⟩
    obtain ⟨en, q, hen, hkey, hq⟩ := ent i k x hkv
    have hel : e < s.heap.objs.size := Heap.lt_size he
    have hil : it < s.heap.objs.size := by obtain ⟨_, q, _⟩ := hit; exact Heap.lt_size q
    refine wpAny_pyNext_enum_itemC (my_drawKeys (prog := X.prog) (w := X.w) (A := X.A.in1) (I.ok.hd hc) it d hai od es ep hdd) he ⟨hit, hgd⟩ (by omega) hne (by simp [hne, Ne.symm hae]) fun y h' tk hP ho hs' hT hsz2 hk => ?_
    obtain ⟨en2, hen2, rfl⟩ := hP
    rw [hen] at hen2
    cases hen2
    rw [hkey] at ho hT
    refine ⟨_, rfl, wpAny_letOwnedTupleGo_enum (s := { s with heap := h', toks := tk + 1 }) ho fun h2 he2 sb => ?_⟩
    have hT2 : h2.get? s.heap.objs.size = some { cls := .type "tuple", data := .seq #[.int i tk, .ref q] } := (sb.2 _ (Nat.ne_of_gt hel)).trans hT
    have new : ObjOk X.prog X.w (upd H s.heap.objs.size (.tup [.int (i : Nat), .ref q])) h2 s.heap.objs.size (.tup [.int (i : Nat), .ref q]) := ⟨by show 2 ≤ sizeLine; decide, [.int i tk, .ref q], .cons ⟨_, rfl⟩ (.cons rfl .nil), ⟨_, hT2, rfl, _, rfl⟩⟩
    have I1 : Inv X pins σ (upd H s.heap.objs.size (.tup [.int (i : Nat), .ref q])) { s with heap := h2, toks := tk + 1 } :=
      I.turnedNew (t' := tk + 1) (ch := [e, it]) (fun b ob hb q => (sb.2 b (fun z => hb (by simp [z]))).trans (hk b ob (fun z => hb (by simp [z])) (fun z => hb (by simp [z])) q)) hf (Nat.le_refl _) new
    refine ⟨.ref s.heap.objs.size, _, I1, rfl, ⟨_, q, k, x, rfl, I.hok.fresh (Nat.le_refl _), rfl, hkv, hq⟩, ⟨⟨.ref q, ?_⟩, hs'.1.at fun o q => (sb.2 it (Ne.symm hne)).trans q, hne, hai, hae⟩, fun b hb => ?_⟩
    · have e1 : ((i + 1 : Nat) : Int) = (i : Int) + 1 := by omega
      rw [e1]; exact he2
    · have hb' : b < s.heap.objs.size := by
        rcases (show b = e ∨ b = it by simpa using hb) with rfl | rfl
        · exact hel
        · exact hil
      rw [upd_ne (Nat.ne_of_lt hb')]
      exact (hf b hb).1
  done := by
    intro X hP hw hK hc i pins s σ H E I hf st hg
    subst hP hw hK
    obtain ⟨⟨old, he⟩, hit, hne, hai, hae⟩ := st
    obtain ⟨hd, hi⟩ := hg
    obtain ⟨hs, hgd, hx, es', ep', hdt, hsz', ent⟩ := I.frzT hd
    obtain ⟨ee1, ee2⟩ := dict_ep hdt hdd
    subst ee1 ee2
    obtain ⟨f0, f1, f2, f3, f4, f5⟩ := hf it (by simp)
    have ei : es.size = i := by omega
    subst ei
    exact wpAny_pyNext_enum_endD (my_drawKeys (prog := X.prog) (w := X.w) (A := X.A.in1) (I.ok.hd hc) it d hai od es ep hdd) he ⟨hit, hgd⟩ fun h' eb => ⟨rfl, I.turned (t' := s.toks) (fun b o hb q => eb b o hb q) f0 f1 f3 f4 f5⟩
  self := fun A i s Q E st h => let ⟨⟨_, he⟩, _⟩ := st; wpAny_pyIter_enum he h
end
def iEnT (K : PySem.W.Frag) (ta : TA) : TI := fun σ H R => ta σ H fun vs H1 => ∃ a xs, vs = [.ref a] ∧ SqT K H1 a xs ∧ R (IteT K a) H1
theorem pi_enT {X : Cx} {e : Expr} {ta : TA} {p pos tpos : Pos} {elts : List Expr} {kk : Nat} (hg : Gl X "enumerate") (hm : X.mg "enumerate" = none) (ha : PA X [e] ta) (hs : starEach [e] X.env = [(false, eval e X.env)] := by rfl) :
    PI X (.Tuple elts kk tpos) (.Call (.Name "enumerate" p) [e] [] pos) (iEnT X.K ta) := by
  refine ⟨fun pins s σ H R I h => ?_⟩
  refine Call_ (ld_blt I hg hm boot_enumerate (PyProof.Rows.callWith_type1 (thn (ha.run pos pins s σ H _ I h) fun us s1 ⟨vs, H1, I1, r1, q1⟩ => ?_) hs rfl))
  obtain ⟨a, xs, ex, hq, q⟩ := q1
  subst ex
  obtain ⟨u, rfl, rx⟩ := vals1 r1
  obtain rfl : u = Value.ref a := rx
  obtain ⟨its, rv, p', hz⟩ := I1.tuple hq
  have lta : a < s1.heap.objs.size := by obtain ⟨_, e1, _⟩ := p'; exact Heap.lt_size e1
  refine my_enum (begins_tuple a its.toArray) p' fun h' he hit hk => wpAny_pyIter_enum he ?_
  have I2 : Inv X pins σ H1 { s1 with heap := h' } := I1.kept (t' := s1.toks) hk
  refine ⟨s1.heap.objs.size + 1, [s1.heap.objs.size + 1, s1.heap.objs.size], _, _, H1, rfl, I2, turn_enT a (s1.heap.objs.size + 1) s1.heap.objs.size, ⟨⟨.none, he⟩, ⟨_, hit, rfl, rfl⟩, Nat.succ_ne_self _, Nat.ne_of_lt lta, Nat.ne_of_lt (Nat.lt_succ_of_lt lta)⟩, fun b hb => ?_, q⟩
  have hle : s1.heap.objs.size ≤ b := by
    rcases (show b = s1.heap.objs.size + 1 ∨ b = s1.heap.objs.size by simpa using hb) with z | z <;> rw [z] <;> first | exact Nat.le_succ _ | exact Nat.le_refl _
  exact I1.fpOk hle (I1.hok.fresh hle)
theorem walk_enT {K : PySem.W.Frag} {a : Addr} {xs : List V} : Walk (IteT K a) xs.length (fun H => SqT K H a xs) (YPair (fun i => some (.int (i : Nat))) (fun i => xs[i]?)) :=
  ⟨fun i _ hi q => ⟨xs, xs[i], q, by simp [hi]⟩, fun _ q => ⟨xs, q, rfl⟩, fun i H v H' _ q ⟨T, x, h1, h2, h3, h4⟩ => ⟨T, .int (i : Nat), x, h1, h2, h3, rfl, h4 xs q⟩⟩
def iEnK (ta : TA) : TI := fun σ H R => ta σ H fun vs H1 => ∃ d o kvs, vs = [.ref d] ∧ H1 d = some (.frz o (.dT kvs)) ∧ R (IteK d o kvs) H1
theorem begins_keys {d : Addr} {od : Obj} {es : Array DictEntry} {ep : Nat} (hs : (d == sysModules) = false) (hx : od.ExactDict) (hdd : od.data = .dict es ep) : Begins (.ref d) { cls := .type "dict_keyiterator", data := .fields #[.ref d, .int 0 0, .int es.size 0, .int ep 0] } fun h => h.get? d = some od where
  iter := fun prog w A E s Q h1 h => iter_keys hs h1 hx hdd h
  keeps := fun h h' x hk => hk d _ x
  free := rfl
theorem pi_enK {X : Cx} {e : Expr} {ta : TA} {p pos tpos : Pos} {elts : List Expr} {kk : Nat} (hg : Gl X "enumerate") (hm : X.mg "enumerate" = none) (ha : PA X [e] ta) (hs : starEach [e] X.env = [(false, eval e X.env)] := by rfl) :
    PI X (.Tuple elts kk tpos) (.Call (.Name "enumerate" p) [e] [] pos) (iEnK ta) := by
  refine ⟨fun pins s σ H R I h => ?_⟩
  refine Call_ (ld_blt I hg hm boot_enumerate (PyProof.Rows.callWith_type1 (thn (ha.run pos pins s σ H _ I h) fun us s1 ⟨vs, H1, I1, r1, q1⟩ => ?_) hs rfl))
  obtain ⟨d, od, kvs, ex, hq, q⟩ := q1
  subst ex
  obtain ⟨u, rfl, rx⟩ := vals1 r1
  obtain rfl : u = Value.ref d := rx
  obtain ⟨hsm, hgd, hx, es, ep, hdt, hsz, ent⟩ := I1.frzT hq
  have ltd : d < s1.heap.objs.size := Heap.lt_size hgd
  refine my_enum (begins_keys hsm hx hdt) hgd fun h' he hit hk => wpAny_pyIter_enum he ?_
  have I2 : Inv X pins σ H1 { s1 with heap := h' } := I1.kept (t' := s1.toks) hk
  refine ⟨s1.heap.objs.size + 1, [s1.heap.objs.size + 1, s1.heap.objs.size], _, _, H1, rfl, I2, turn_enK hdt hsz (s1.heap.objs.size + 1) s1.heap.objs.size, ⟨⟨.none, he⟩, ⟨_, hit, rfl, rfl⟩, Nat.succ_ne_self _, Nat.ne_of_lt ltd, Nat.ne_of_lt (Nat.lt_succ_of_lt ltd)⟩, fun b hb => ?_, q⟩
  have hle : s1.heap.objs.size ≤ b := by
    rcases (show b = s1.heap.objs.size + 1 ∨ b = s1.heap.objs.size by simpa using hb) with z | z <;> rw [z] <;> first | exact Nat.le_succ _ | exact Nat.le_refl _
  exact I1.fpOk hle (I1.hok.fresh hle)
theorem walk_enK {d : Addr} {od : Obj} {kvs : List (List Key × V)} : Walk (IteK d od kvs) kvs.length (fun H => H d = some (.frz od (.dT kvs))) (fun i H v H' => ∃ T q k x, v = .ref T ∧ H T = none ∧ H' = upd H T (.tup [.int (i : Nat), .ref q]) ∧ kvs[i]? = some (k, x) ∧ H q = some (.tup (k.map kV))) :=
  ⟨fun i _ hi q => ⟨q, hi⟩, fun _ q => ⟨q, rfl⟩, fun i H v H' _ q y => y⟩
end L2.My
end
section
set_option Elab.async false
set_option linter.all false
set_option maxRecDepth 100000
set_option maxHeartbeats 4000000
namespace L2.My
open PySem PySem.Spec PyProof.Rows
section
variable {X : Cx} {pins : List (Addr × Obj)} {σ : St} {H : Hp} {s : Shared} {a b : Addr} {v : V} {r : Value} {A : Around} {E : Value → Shared → Prop} {kvs : List (List Key × V)} {k : List Key}
theorem d_dictSetT {Q : Unit → Shared → Prop} (hu : A.units + 2 < cLine) (I : Inv X pins σ H s) (e : H a = some (.dT kvs)) (eb : H b = some (.tup (k.map kV))) (hz : kvs.length < sizeLine) (rv : RelV v r)
    (h : ∀ s', Inv X pins σ (upd H a (.dT (putK kvs k v))) s' → Q () s') : wpAny (model X.prog X.w) A (dictSet a (.ref b) r) Q E s := by
  obtain ⟨z, hd, xs, rel, dd⟩ := dt_of I.hok e
  have zx : xs.length ≤ sizeLine := by rw [← Paired.length rel]; exact z
  have hl : (putK kvs k v).length ≤ sizeLine := by have := length_putK kvs k v; omega
  refine wpAny_dictSet_heap (hsz := zx) (show A.units < cLine by omega) (key_of I.hok eb) dd fun h' dd' hs => h _ ?_
  obtain ⟨q, es, ep, hq, h2, h3, h4, _, h5⟩ := dd'
  refine d_write I (by rw [e]; exact True.intro) hs ⟨q, hq⟩ ⟨hl, hd, _, (rel.put k eb rv).keeps fun c ys ec => ?_, q, es, ep, hq, h2, h3, h4, h5⟩
  rw [upd_ne (ne_of ec e (fun z => nomatch z))]
  exact ec
theorem d_setdT {d : V} {Q : Value → Shared → Prop} (hu : A.units + 2 < cLine) (I : Inv X pins σ H s) (e : H a = some (.dT kvs)) (eb : H b = some (.tup (k.map kV))) (hz : kvs.length < sizeLine) (rd : RelV d r)
    (h1 : ∀ v, valV kvs k = some v → ∀ (w' : Value) (s' : Shared), Inv X pins σ H s' → RelV v w' → Q w' s') (h2 : valV kvs k = none → ∀ (w' : Value) (s' : Shared), Inv X pins σ (upd H a (.dT (putK kvs k d))) s' → RelV d w' → Q w' s') :
    wpAny (model X.prog X.w) A (call (.builtin "dict.setdefault") [.ref a, .ref b, r]) Q E s := by
  obtain ⟨z, hd, xs, rel, dd⟩ := dt_of I.hok e
  have zx : xs.length ≤ sizeLine := by rw [← Paired.length rel]; exact z
  have q := rel.val k
  refine call_setdefault_heap (show A.units + 1 < cLine by omega) (key_of I.hok eb) hd dd (fun p hp => ?_) (fun hn h' dd' hs => ?_) zx
  · rw [hp] at q
    cases q0 : valV kvs k with
    | none => rw [q0] at q; exact (show False from q).elim
    | some v0 => rw [q0] at q; exact h1 v0 q0 _ _ (I.tok _) q
  · rw [hn] at q
    cases q0 : valV kvs k with
    | some v0 => rw [q0] at q; exact (show False from q).elim
    | none =>
      have hl : (putK kvs k d).length ≤ sizeLine := by have := length_putK kvs k d; omega
      obtain ⟨o, es, ep, hq, e2, e3, e4, _, e5⟩ := dd'
      have J : ObjOk X.prog X.w (upd H a (.dT (putK kvs k d))) h' a (.dT (putK kvs k d)) := ⟨hl, hd, _, (rel.put k eb rd).keeps fun c ys ec => (by
        rw [upd_ne (ne_of ec e (fun z => nomatch z))]
        exact ec), o, es, ep, hq, e2, e3, e4, e5⟩
      exact h2 q0 _ _ (d_write I (by rw [e]; exact True.intro) hs ⟨o, hq⟩ J) rd
end
/-- d.setdefault(y, z), tuple keys -/
def tDSetT (td ty tx : TE) : TE := fun σ H Q => td σ H fun x H1 => ∃ a, x = .ref a ∧ IsD H1 a ∧ ty σ H1 fun y H2 => tx σ H2 fun z H3 => ∃ (kvs : List (List Key × V)) (k : List Key) (b : Addr), H3 a = some (.dT kvs) ∧ y = .ref b ∧ H3 b = some (.tup (k.map kV)) ∧ kvs.length < sizeLine ∧
  (∀ v, valV kvs k = some v → Q v H3) ∧ (valV kvs k = none → Q z (upd H3 a (.dT (putK kvs k z))))
section
variable {X : Cx} {o e f : Expr} {td ty tx : TE} {apos cpos : Pos}
theorem pe_dsetT (hu : X.A.units + 2 < cLine) (ho : PE X o td) (he : PE X e ty) (hf : PE X f tx) (m : M2 X o "setdefault" apos e f cpos) : PE X (.Call (.Attribute o "setdefault" apos) [e, f] [] cpos) (tDSetT td ty tx) := by
  refine ⟨fun pins s σ H Q I h => ?_⟩
  refine wpAny_Call_method m.base m.few m.line PySem.F.plainAttrs_dict PySem.F.slot_dict_setdefault PySem.F.type_dict_setdefault (thn (ho.run pins s σ H _ I h) fun u s1 ⟨x, H1, I1, rx, a, ex, d, q1⟩ => ?_)
  subst ex
  obtain rfl : u = Value.ref a := rx
  obtain ⟨t1, t2, _⟩ := isD_at I1 d
  refine ⟨t1, t2, ?_⟩
  rw [m.trees]
  refine Calls.callWith_builtin rfl (Calls.evalArgs_plain (Calls.spliced_cons (thn (he.run pins s1 σ H1 _ I1 q1) fun iv s2 ⟨y, H2, I2, ry, q2⟩ => Calls.spliced_cons (thn (hf.run pins s2 σ H2 _ I2 q2) fun fv s3 ⟨z, H3, I3, rz, kvs, k, b, ea, ey, eb, hl, q3, q4⟩ => Calls.spliced_nil ?_))))
  subst ey
  obtain rfl : iv = Value.ref b := ry
  exact d_setdT hu I3 ea eb hl rz (fun v hv w' s4 I4 rw' => ⟨v, _, I4, rw', q3 v hv⟩) fun hn w' s4 I4 rw' => ⟨z, _, I4, rw', q4 hn⟩
end
/-! ### a comprehension -/
def tDcT (wi : TI) (g : TG) (tt : TT) (tk tv : TE) (vs : List Nat) : TE := fun σ H Q => wi σ H fun J H1 => ∀ D, H1 D = none → ∃ W : Nat → Nat → Hp → Prop, (∃ m, W 0 m (upd H1 D (.dT []))) ∧ ∀ i m H, W i m H →
  (J.stop i H ∧ Q (.ref D) H) ∨ (J.go i H ∧ ∃ Nx : Hp → Prop, (∀ H', Nx H' → ∃ m', m' < m ∧ W (i + 1) m' H') ∧ ∀ x H', J.yld i H x H' → g x (wipe σ vs) H' fun σ2 H2 => wipe σ2 vs = wipe σ vs ∧ tt σ2 H2 fun b H3 =>
    if b = true then tk σ2 H3 fun y H4 => tv σ2 H4 fun z H5 => ∃ kvs k b, y = .ref b ∧ H5 D = some (.dT kvs) ∧ H5 b = some (.tup (k.map kV)) ∧ kvs.length < sizeLine ∧ Nx (upd H5 D (.dT (putK kvs k z))) else Nx H3)
section
variable {X : Cx}
theorem dc_coreT {pins : List (Addr × Obj)} {s : Shared} {σ : St} {H : Hp} {Q : VK} {kx vx tg iter : Expr} {ifs : List Expr} {scope : Scope} {own : List (Str × Nat)} {pos pos' : Pos} {wi : TI} {g : TG} {tt : TT} {tk tv : TE} {use : Option (Value → Sem Unit)} {Qf : Value → Shared → Prop}
    (hu : X.A.units + 2 < cLine) (hc : X.calm = true) (hN : X.N.Nodup) (I : Inv X pins σ H s) (hi : PI X tg iter wi) (ok : BlkOk X.N X.env.scope scope own)
    (hg : ∀ (s : Shared) (H : Hp) (C : Addr) (cl : List (Str × Addr)) (fp : List Addr), PG (X.blk s H scope (compEnvC scope cl C X.env) fp) tg g) (ht : ∀ (s : Shared) (H : Hp) (C : Addr) (cl : List (Str × Addr)) (fp : List Addr), PTs (X.blk s H scope (compEnvC scope cl C X.env) fp) ifs tt)
    (hk : ∀ (s : Shared) (H : Hp) (C : Addr) (cl : List (Str × Addr)) (fp : List Addr), PE (X.blk s H scope (compEnvC scope cl C X.env) fp) kx tk)
    (he : ∀ (s : Shared) (H : Hp) (C : Addr) (cl : List (Str × Addr)) (fp : List Addr), PE (X.blk s H scope (compEnvC scope cl C X.env) fp) vx tv) (hs : ∀ x, foldedSetIterable iter X.env x = pure x)
    (h : tDcT wi g tt tk tv (own.map (·.2)) σ H Q)
    (hRR : ∀ D C s' m H', Inv X pins σ H' s' → Q (.ref D) H' → s'.heap.Ns C m → FpOk X pins H' C → compPost (model X.prog X.w) X.A X.xe use Qf (.ref D) C (.ok .next) s') :
    wpAny (model X.prog X.w) X.A (comprehension (.DictComp kx vx [⟨tg, iter, ifs, 0⟩] scope pos) scope X.env pos' newDict false (eval iter X.env) use) Qf X.xe s := by
  have hfree : ∀ y ∈ scope.names, y.2 = .free → ∃ c, X.env.cells.lookup y.1 = some c := fun y hy e => by
    rcases ok.free y hy e with k | k
    · exact I.ok.has _ (.inl k)
    · exact I.ok.has _ (.inr k)
  refine wpAny_comprehension_free (use := use) rfl hs (closure_ok hfree) ok.kind (fun y hy e => by rw [ok.uniq y hy, e])
    (thn (hi.run pins s σ H _ I h) fun xv s1 hx => thn hx fun itv s2 h2 => ?_)
  obtain ⟨it, fp, tn, J, H2, e, I2, T, st2, f2, q⟩ := h2
  subst e
  refine wpAny_newObj_type (newEnv_comp ?_)
  generalize hD : s2.heap.objs.size = D
  have hDn : H2 D = none := I2.hok.fresh (Nat.le_of_eq hD)
  obtain ⟨W, ⟨m0, w0⟩, turn⟩ := q D hDn
  -- the new list
  generalize hs3 : ({ s2 with heap := s2.heap.push { cls := .type "dict", data := .dict #[] } } : Shared) = s3
  have I3 : Inv X pins σ (upd H2 D (.dT [])) s3 := by
    rw [← hs3]
    refine I2.laid (t' := s2.toks) (fun b o e => Heap.get?_push_of_some _ e) (Nat.le_of_eq hD) ?_
    rw [← hD]
    exact dt_empty s2.heap I2.big
  have h3 : s3.heap = s2.heap.push { cls := .type "dict", data := .dict #[] } := by rw [← hs3]
  have sz : ∀ b ∈ fp, b < s2.heap.objs.size := fun b hb => by
    obtain ⟨o, e, _⟩ := T.obj _ _ st2 b hb
    exact Heap.lt_size e
  have f3 : ∀ b ∈ fp, FpOk X pins (upd H2 D (.dT [])) b ∧ b < s3.heap.objs.size := fun b hb => by
    have hlt := sz b hb
    refine ⟨⟨?_, (f2 b hb).2⟩, by rw [h3, Heap.size_push]; exact Nat.lt_succ_of_lt hlt⟩
    rw [upd_ne (by rw [← hD]; exact Nat.ne_of_lt hlt)]
    exact (f2 b hb).1
  have st3 : tn 0 s3.heap := T.keep _ _ _ st2 fun b _ o e => by rw [h3]; exact Heap.get?_push_of_some _ e
  have I4 := block_start I3 ok hN f3
  have pg := hg s3 (upd H2 D (.dT [])) s3.heap.objs.size (cellsFrom (s3.heap.objs.size + 1) scope.names (cloFrom X.env.cells scope.names [])) fp
  have pt := ht s3 (upd H2 D (.dT [])) s3.heap.objs.size (cellsFrom (s3.heap.objs.size + 1) scope.names (cloFrom X.env.cells scope.names [])) fp
  have pk := hk s3 (upd H2 D (.dT [])) s3.heap.objs.size (cellsFrom (s3.heap.objs.size + 1) scope.names (cloFrom X.env.cells scope.names [])) fp
  have pe := he s3 (upd H2 D (.dT [])) s3.heap.objs.size (cellsFrom (s3.heap.objs.size + 1) scope.names (cloFrom X.env.cells scope.names [])) fp
  show codeAny _ _ (.compStart (.DictComp kx vx [⟨tg, iter, ifs, 0⟩] scope pos) 0 (.ref it) (.ref D) (compEnvC scope (cellsFrom (s3.heap.objs.size + 1) scope.names (cloFrom X.env.cells scope.names [])) s3.heap.objs.size X.env)) (compPost (model X.prog X.w) X.A X.xe use Qf (.ref D) s3.heap.objs.size) { s3 with heap := pushCells (s3.heap.push { cls := .type "dict", data := .dict #[] }) scope.names }
  have nfp : ∀ b ∈ fp, (upd H2 D (.dT [])) b = none := fun b hb => (f3 b hb).1.1
  generalize hce : compEnvC scope (cellsFrom (s3.heap.objs.size + 1) scope.names (cloFrom X.env.cells scope.names [])) s3.heap.objs.size X.env = ce at I4 pg pt pk pe ⊢
  have cL : ce.locals = s3.heap.objs.size := by subst hce; rfl
  generalize hH3 : upd H2 D (.dT []) = H3 at I3 I4 pg pt pk pe w0 nfp f3
  generalize hs4 : ({ s3 with heap := pushCells (s3.heap.push { cls := .type "dict", data := .dict #[] }) scope.names } : Shared) = s4 at I4 ⊢
  have st4 : tn 0 s4.heap := T.keep _ _ _ st3 fun b _ o e => by rw [← hs4]; exact pushCells_keeps _ _ _ _ (Heap.get?_push_of_some _ e)
  have stat : ∀ {σ' : St} {H' : Hp} {s' : Shared}, Inv (X.blk s3 H3 scope ce fp) [] σ' H' s' → (∀ b ∈ fp, H' b = none) → ∀ b ∈ fp, FpOk (X.blk s3 H3 scope ce fp) [] H' b := fun {σ' H' s'} I' hn b hb =>
    ⟨hn b hb, (I'.ok.exf b hb).1, I'.ok.exfs b hb, .inl hb, fun x c e => (I'.ok.exf b hb).2 x c e, fun p hp => absurd (show p ∈ ([] : List (Addr × Obj)) ++ [] from hp) (by simp)⟩
  have loop : codeAny (model X.prog X.w) X.A (.compLoop (.DictComp kx vx [⟨tg, iter, ifs, 0⟩] scope pos) 0 (.ref it) (.ref D) ce) (compPost (model X.prog X.w) X.A X.xe use Qf (.ref D) s3.heap.objs.size) s4 := by
    refine compLoop_anyD (fun n s' => ∃ i H', Inv (X.blk s3 H3 scope ce fp) [] (wipe σ (own.map (·.2))) H' s' ∧ tn i s'.heap ∧ (∀ b ∈ fp, H' b = none) ∧ W i n H') ?_ m0 ⟨0, H3, I4, st4, nfp, w0⟩
    rintro n s5 ⟨i, H5, I5, st5, n5, w5⟩
    rcases turn i n H5 w5 with ⟨stop, qq⟩ | ⟨go, Nx, hNx, step⟩
    · have td := T.done (X.blk s3 H3 scope ce fp) rfl rfl rfl hc i [] s5 _ H5 (fun _ _ => False) I5 (stat I5 n5) st5 stop
      refine thnF td fun r s6 ⟨hr, I6⟩ => ?_
      subst hr
      -- back in the def's context
      have I7 : Inv X pins σ H5 s6 := I3.call' (ch := fp) I6.os I6.base I6.hok I6.bare fun b hb => ⟨(f3 b hb).1.2.2.2.1, (f3 b hb).1.2.1, (f3 b hb).1.2.2.2.2.1, (f3 b hb).1.2.2.2.2.2⟩
      have nC : H5 s3.heap.objs.size = none := by
        have z : H5 ce.locals = none := I6.free
        rw [cL] at z
        exact z
      obtain ⟨m, hn, _⟩ := I6.loc
      have hn : s6.heap.Ns ce.locals m := hn
      rw [cL] at hn
      exact hRR D s3.heap.objs.size s6 m H5 I7 qq hn (I3.fpOk (Nat.le_refl _) nC)
    · have ti := T.item (X.blk s3 H3 scope ce fp) rfl rfl rfl hc i [] s5 _ H5 (fun _ _ => False) I5 (stat I5 n5) st5 go
      refine thnF ti fun r s6 ⟨u, hr, h6⟩ => ?_
      subst hr
      refine thnF h6 fun _ s7 ⟨x, H7, I7, r7, y7, st7, n7⟩ => ?_
      have I7' := I7.pinned (stat I7 n7) (T.obj _ _ st7)
      refine thnF (pg.run _ s7 _ H7 x u _ I7' r7 (step x H7 y7)) fun _ s8 ⟨σ8, H8, I8, hw8, q8⟩ => ?_
      refine thnF (pt.run _ s8 σ8 H8 _ I8 q8) fun b s9 ⟨H9, I9, q9⟩ => ?_
      -- the turn's end
      have fin : ∀ {s' : Shared} {H' : Hp}, Inv (X.blk s3 H3 scope ce fp) ([] ++ pinsAt fp s7.heap) σ8 H' s' → Nx H' → ∃ m, m < n ∧ ∃ i H', Inv (X.blk s3 H3 scope ce fp) [] (wipe σ (own.map (·.2))) H' s' ∧ tn i s'.heap ∧ (∀ b ∈ fp, H' b = none) ∧ W i m H' := fun {s' H'} I' nx => by
        obtain ⟨m', hm, w'⟩ := hNx H' nx
        have pin' : ∀ b ∈ fp, ∀ o, s7.heap.get? b = some o → s'.heap.get? b = some o ∧ H' b = none := fun b hb o e =>
          let z := I'.pin (b, o) (List.mem_append_right _ (List.mem_append_right _ (mem_pinsAt hb e)))
          ⟨z.1, z.2.1⟩
        have hl : (wipe σ (own.map (·.2))).length = σ8.length := by rw [← hw8, wipe_length]
        refine ⟨m', hm, i + 1, H', (I'.unpinned (pins := [])).weak hl (fun j v e => ?_), T.keep _ _ _ st7 fun b hb o e => (pin' b hb o e).1, fun b hb => ?_, w'⟩
        · rw [← hw8] at e
          exact (wipe_some e).1
        · obtain ⟨o, e, _⟩ := T.obj _ _ st7 b hb
          exact (pin' b hb o e).2
      cases b with
      | false =>
        simp only [Bool.false_eq_true, if_false] at q9 ⊢
        exact fin I9 q9
      | true =>
        simp only [if_true] at q9 ⊢
        refine thnF (pk.run _ s9 σ8 H9 _ I9 q9) fun z s10 ⟨yk, H10, I10, r10, q10⟩ => ?_
        refine thnF (pe.run _ s10 σ8 H10 _ I10 q10) fun z2 s11 ⟨yv, H11, I11, r11, kvs, k, b, ek, hD11, hb11, hz11, nx⟩ => ?_
        subst ek
        obtain rfl : z = Value.ref b := r10
        exact d_dictSetT (X := X.blk s3 H3 scope ce fp) hu I11 hD11 hb11 hz11 r11 fun s12 I12 => fin I12 nx
  exact codeAny_compStart_dict loop (T.self X.A 0 _ _ _ st4 loop)
/-- as a value -/
theorem pe_dcT {kx vx tg iter : Expr} {ifs : List Expr} {scope : Scope} {own : List (Str × Nat)} {pos : Pos} {wi : TI} {g : TG} {tt : TT} {tk tv : TE} (hu : X.A.units + 2 < cLine) (hc : X.calm = true) (hN : X.N.Nodup) (hi : PI X tg iter wi) (ok : BlkOk X.N X.env.scope scope own)
    (hg : ∀ (s : Shared) (H : Hp) (C : Addr) (cl : List (Str × Addr)) (fp : List Addr), PG (X.blk s H scope (compEnvC scope cl C X.env) fp) tg g) (ht : ∀ (s : Shared) (H : Hp) (C : Addr) (cl : List (Str × Addr)) (fp : List Addr), PTs (X.blk s H scope (compEnvC scope cl C X.env) fp) ifs tt)
    (hk : ∀ (s : Shared) (H : Hp) (C : Addr) (cl : List (Str × Addr)) (fp : List Addr), PE (X.blk s H scope (compEnvC scope cl C X.env) fp) kx tk)
    (he : ∀ (s : Shared) (H : Hp) (C : Addr) (cl : List (Str × Addr)) (fp : List Addr), PE (X.blk s H scope (compEnvC scope cl C X.env) fp) vx tv) (hs : ∀ x, foldedSetIterable iter X.env x = pure x := by intro _; rfl) :
    PE X (.DictComp kx vx [⟨tg, iter, ifs, 0⟩] scope pos) (tDcT wi g tt tk tv (own.map (·.2))) := by
  refine ⟨fun pins s σ H Q I h => ?_⟩
  rw [arm_eval_DictComp]
  refine dc_coreT hu hc hN I hi ok hg ht hk he hs h fun D C s' m H' I' q hn f => ⟨m, hn, fun h'' sb => ?_⟩
  obtain ⟨f0, f1, f2, f3, f4, f5⟩ := f
  exact ⟨.ref D, H', I'.turned (t' := s'.toks) (fun b o hb e => (sb.2 b hb).trans e) f0 f1 f3 f4 f5, rfl, q⟩
end
end L2.My
end
section
set_option Elab.async false
set_option linter.all false
set_option maxRecDepth 100000
set_option maxHeartbeats 4000000
namespace L2.My
open PySem PySem.Spec PyProof.Rows
def top (i : Nat) : Stmt := PySem.Challenge.pw_strangerspost_k09_whole_paths_and_resolu.main.body.getD i (.Pass ⟨0, 0, 0, 0⟩)
abbrev mT (i : Nat) : Stmt := inClass (top 20) i
abbrev mB (i : Nat) : Stmt := inClass (top 4) i
/-- a word of letters -/
def wordS (z : Str) : Prop := 1 ≤ z.length ∧ z.length ≤ 12 ∧ z.cps.toList.all (fun c => decide (97 ≤ c) && decide (c ≤ 122)) = true
/-- all tuples stand -/
def TK (H H' : Hp) : Prop := ∀ p xs, H p = some (.tup xs) → H' p = some (.tup xs)
theorem TK.refl {H : Hp} : TK H H := fun _ _ h => h
theorem TK.trans {H H1 H2 : Hp} (a : TK H H1) (b : TK H1 H2) : TK H H2 := fun p xs h => b p xs (a p xs h)
theorem TK.same {H H' : Hp} (s : Same H H') : TK H H' := fun _ _ h => s _ _ h
theorem TK.upd {H : Hp} {a : Addr} {o : HO} {u : HO} (h : H a = some u) (hu : ∀ xs, u ≠ .tup xs) : TK H (upd H a o) := fun p xs e => by
  rw [upd_ne (fun z => by rw [z, h] at e; exact hu xs (Option.some.inj e))]
  exact e
theorem TK.bl {L : List Addr} {H H' : Hp} (s : BL L H H') (hL : ∀ p ∈ L, ∀ xs, H p ≠ some (.tup xs)) : TK H H' := fun p xs e => s p _ (fun z => hL p z xs e) e
/-! ### the text's names -/
structure Tx (mg : Str → Option Value) : Prop where
  isi : mg "isinstance" = none
  int_ : mg "int" = none
  bool_ : mg "bool" = none
  str_ : mg "str" = none
  len_ : mg "len" = none
  all_ : mg "all" = none
  tuple_ : mg "tuple" = none
  list_ : mg "list" = none
  range_ : mg "range" = none
  rev_ : mg "reversed" = none
  repr_ : mg "repr" = none
  ml : ∃ t, mg "MOST_LETTERS" = some (.int 12 t)
  mh : ∃ t, mg "MOST_HEIGHT" = some (.int 8 t)
/-- a def of the module that may be called -/
structure Cal (P : Program) (w : World) (K : PySem.W.Frag) (mg : Str → Option Value) (base : Heap) (k : Nat) (x : Str) (ps : List Str) (sp : Sp) where
  f : Addr
  fd : FuncData
  G : FnOk P w K mg base CX0 k f fd ps sp
  kp : PySem.W.keepIn K (.ref f) = true
  g : mg x = some (.ref f)
  b : Binds K fd ps []
/-- a method of a class that may be called -/
structure Met (P : Program) (w : World) (K : PySem.W.Frag) (mg : Str → Option Value) (base : Heap) (k : Nat) (C : Addr) (x : Str) (ps : List Str) (sp : Sp) where
  f : Addr
  fd : FuncData
  c : Cls K C
  m : Meth K C x f
  G : FnOk P w K mg base CX0 k f fd ps sp
  b : Binds K fd ps []
/-- a class of which objects may be made -/
structure Mak (P : Program) (w : World) (K : PySem.W.Frag) (mg : Str → Option Value) (base : Heap) (k : Nat) (C : Addr) (x : Str) (ps : List Str) (sp : Sp) where
  f : Addr
  fd : FuncData
  M : Mk K C f
  G : FnOk P w K mg base CX0 k f fd ps sp
  g : mg x = some (.ref C)
  b : Binds K fd ps []
section
variable {X : Cx} {k j : Nat} {x : Str} {ps : List Str} {sp : Sp} {C : Addr} {p pos apos : Pos} {e o : Expr} {es : List Expr} {t : TA} {to : TE}
theorem pe_c (c : Cal X.prog X.w X.K X.mg X.base k x ps sp) (hr : Room j X.A) (hk : k ≤ j) (hg : Gl X x) (ha : PA X (e :: es) t) (hdb : (x == ("__debug__" : Str)) = false := by decide)
    (he : starEach (e :: es) X.env = (false, eval e X.env) :: starEach es X.env := by rfl) (hpl : (backTo pos (starEach es X.env)).any (·.1) = false := by rfl) : PE X (.Call (.Name x p) (e :: es) [] pos) (tCall sp [] E0 t) :=
  pe_call c.G (hr.mono hk) hg c.g c.kp c.b .nil pass0 ha hdb he hpl
end
theorem sIx1 (n d : Nat) : HT.sIx n d (some 1) = min 1 n := HT.sIx_nat n d 1
theorem Paired.at {α β : Type} {R : α → β → Prop} {as : List α} {bs : List β} (h : Paired R as bs) {i : Nat} {b : β} (hb : bs[i]? = some b) : ∃ a, as[i]? = some a ∧ R a b := by
  induction h generalizing i with
  | nil => simp at hb
  | @cons x y xs ys r t ih =>
    cases i with
    | zero => simp only [List.getElem?_cons_zero, Option.some.injEq] at hb; subst hb; exact ⟨x, rfl, r⟩
    | succ i => rw [List.getElem?_cons_succ] at hb; obtain ⟨a, ha, hr⟩ := ih hb; exact ⟨a, by rw [List.getElem?_cons_succ]; exact ha, hr⟩
theorem Paired.at' {α β : Type} {R : α → β → Prop} {as : List α} {bs : List β} (h : Paired R as bs) {i : Nat} {a : α} (ha : as[i]? = some a) : ∃ b, bs[i]? = some b ∧ R a b := by
  induction h generalizing i with
  | nil => simp at ha
  | @cons x y xs ys r t ih =>
    cases i with
    | zero => simp only [List.getElem?_cons_zero, Option.some.injEq] at ha; subst ha; exact ⟨y, rfl, r⟩
    | succ i => rw [List.getElem?_cons_succ] at ha; obtain ⟨b, hb, hr⟩ := ih ha; exact ⟨b, by rw [List.getElem?_cons_succ]; exact hb, hr⟩
theorem Paired.len {α β : Type} {R : α → β → Prop} {as : List α} {bs : List β} (h : Paired R as bs) : as.length = bs.length := by
  induction h with
  | nil => rfl
  | cons _ _ ih => rw [List.length_cons, List.length_cons, ih]
theorem ref_at {as : List Addr} {i : Nat} {v : V} (h : (as.map V.ref)[i]? = some v) : ∃ a, as[i]? = some a ∧ v = .ref a := by
  rw [List.getElem?_map] at h
  cases e : as[i]? with
  | none => rw [e] at h; cases h
  | some a => rw [e] at h; exact ⟨a, rfl, (Option.some.inj h).symm⟩
theorem all_tt (n : Nat) : ((List.range n).map fun _ => true).all id = true := by simp
theorem BL.put {L : List Addr} {H G : Hp} {p : Addr} {o : HO} (b : BL L H G) (h : H p = none) : BL L H (L2.upd G p o) := fun q u hq e => by
  rw [upd_ne (fun z => by rw [z, h] at e; cases e)]
  exact b q u hq e
theorem BL.nw {L : List Addr} {H G : Hp} {p : Addr} (b : BL L H G) (h : G p = none) (hp : p ∉ L) : H p = none := by
  cases e : H p with
  | none => rfl
  | some o => rw [b _ _ hp e] at h; cases h
theorem Paired.snoc {α β : Type} {R : α → β → Prop} {as : List α} {bs : List β} {a : α} {b : β} (h : Paired R as bs) (r : R a b) : Paired R (as ++ [a]) (bs ++ [b]) := by
  induction h with
  | nil => exact .cons r .nil
  | cons r' _ ih => exact .cons r' ih
theorem take_snoc {α : Type} {l : List α} {i : Nat} {a : α} (h : l[i]? = some a) : l.take (i + 1) = l.take i ++ [a] := by
  rw [List.take_add_one, h]; rfl
theorem same_put {H G : Hp} {p : Addr} {o : HO} (b : Same H G) (h : H p = none) : Same H (upd G p o) := fun q u e => by
  rw [upd_ne (fun z => by rw [z, h] at e; cases e)]
  exact b q u e
theorem paired_app {α β : Type} {R : α → β → Prop} {as cs : List α} {bs ds : List β} (h : Paired R as bs) (k : Paired R cs ds) : Paired R (as ++ cs) (bs ++ ds) := by
  induction h with
  | nil => exact k
  | cons r _ ih => exact .cons r ih
theorem seq_use {t u : TS} {D : Ends} {σ : St} {H : Hp} (Pm : St → Hp → Prop) (h2 : ∀ σ' H', Pm σ' H' → u D σ' H') (h1 : (∀ σ' H', Pm σ' H' → u D σ' H') → t { D with nx := u D } σ H) : tSeq t u D σ H := h1 h2
end L2.My
end
section
set_option Elab.async false
set_option linter.all false
set_option maxRecDepth 100000
set_option maxHeartbeats 4000000
/-! The law's box: a dict of what was drawn. -/
namespace L2.My
open PySem PySem.Spec PyProof.Rows
abbrev sMixd : Stmt := top 30
abbrev sBox : Stmt := top 31
abbrev sRefill : Stmt := top 32
abbrev sDraw : Stmt := top 33
theorem seqL {K : PySem.W.Frag} {H H' : Hp} {a : Addr} {xs : List V} (e : Same H H') (h : SqL K H a xs) : SqL K H' a xs :=
  h.elim (fun h => .inl (h.elim (fun h => .inl (e _ _ h)) fun ⟨o, h⟩ => .inr ⟨o, e _ _ h⟩)) fun h => .inr h
theorem u1' {k : Nat} {A : Around} (h : Room k A) : A.units + 1 < cLine := by have := h.un; omega
def boxL (g : Addr) (at' rest many : Int) (great : Bool) (all : Int) : List (Key × V) := [(.inr "cells", .ref g), (.inr "at", .int at'), (.inr "rest", .int rest), (.inr "many", .int many), (.inr "great", .bl great), (.inr "all", .int all)]
def BoxAt (H : Hp) (b g : Addr) : Prop := ∃ (ns : List Int) (at' rest many all : Int) (great : Bool), H b = some (.dK (boxL g at' rest many great all)) ∧ H g = some (.lst (ns.map V.int)) ∧ 0 ≤ at' ∧ 0 ≤ rest
theorem BoxAt.ne {H : Hp} {b g : Addr} (h : BoxAt H b g) : g ≠ b := fun e => by
  obtain ⟨_, _, _, _, _, _, h1, h2, _⟩ := h
  rw [e, h1] at h2
  cases h2
theorem BoxAt.tk {H H' : Hp} {b g : Addr} (h : BoxAt H b g) (s : BL [b] H H') : TK H H' := by
  obtain ⟨_, _, _, _, _, _, h1, _⟩ := h
  exact .bl s (fun p hp xs e => by rw [List.mem_singleton.mp hp, h1] at e; cases e)
theorem BoxAt.same {H H' : Hp} {b g : Addr} (h : BoxAt H b g) (s : Same H H') : BoxAt H' b g := by
  obtain ⟨ns, a1, r, m, al, gr, h1, h2, h3⟩ := h
  exact ⟨ns, a1, r, m, al, gr, s _ _ h1, s _ _ h2, h3⟩
theorem BoxAt.put {H : Hp} {b g D : Addr} {o : HO} (h : BoxAt H b g) (hb : D ≠ b) (hg : D ≠ g) : BoxAt (L2.upd H D o) b g := by
  obtain ⟨ns, a1, r, m, al, gr, h1, h2, h3⟩ := h
  exact ⟨ns, a1, r, m, al, gr, by rw [upd_ne (Ne.symm hb)]; exact h1, by rw [upd_ne (Ne.symm hg)]; exact h2, h3⟩
theorem BoxAt.nb {H : Hp} {b g D : Addr} (h : BoxAt H b g) (n : H D = none) : D ≠ b := fun e => by
  obtain ⟨_, _, _, _, _, _, h1, _⟩ := h
  rw [e, h1] at n; cases n
theorem BoxAt.ng {H : Hp} {b g D : Addr} (h : BoxAt H b g) (n : H D = none) : D ≠ g := fun e => by
  obtain ⟨_, _, _, _, _, _, _, h2, _⟩ := h
  rw [e, h2] at n; cases n
section
variable {H : Hp} {b g : Addr} {at' rest many all x : Int} {great y : Bool}
theorem bx_cells (hb : H b = some (.dK (boxL g at' rest many great all))) : DGet H b (.str "cells") (some (.ref g)) := .inl ⟨_, .inr "cells", .inl hb, rfl, rfl⟩
theorem bx_at (hb : H b = some (.dK (boxL g at' rest many great all))) : DGet H b (.str "at") (some (.int at')) := .inl ⟨_, .inr "at", .inl hb, rfl, rfl⟩
theorem bx_rest (hb : H b = some (.dK (boxL g at' rest many great all))) : DGet H b (.str "rest") (some (.int rest)) := .inl ⟨_, .inr "rest", .inl hb, rfl, rfl⟩
theorem bx_many (hb : H b = some (.dK (boxL g at' rest many great all))) : DGet H b (.str "many") (some (.int many)) := .inl ⟨_, .inr "many", .inl hb, rfl, rfl⟩
theorem bx_great (hb : H b = some (.dK (boxL g at' rest many great all))) : DGet H b (.str "great") (some (.bl great)) := .inl ⟨_, .inr "great", .inl hb, rfl, rfl⟩
theorem bx_all (hb : H b = some (.dK (boxL g at' rest many great all))) : DGet H b (.str "all") (some (.int all)) := .inl ⟨_, .inr "all", .inl hb, rfl, rfl⟩
theorem bp_at (hb : H b = some (.dK (boxL g at' rest many great all))) : DPut H b (.str "at") (.int x) (upd H b (.dK (boxL g x rest many great all))) := .inl ⟨_, .inr "at", hb, rfl, by show 6 < sizeLine; decide, rfl⟩
theorem bp_rest (hb : H b = some (.dK (boxL g at' rest many great all))) : DPut H b (.str "rest") (.int x) (upd H b (.dK (boxL g at' x many great all))) := .inl ⟨_, .inr "rest", hb, rfl, by show 6 < sizeLine; decide, rfl⟩
theorem bp_many (hb : H b = some (.dK (boxL g at' rest many great all))) : DPut H b (.str "many") (.int x) (upd H b (.dK (boxL g at' rest x great all))) := .inl ⟨_, .inr "many", hb, rfl, by show 6 < sizeLine; decide, rfl⟩
theorem bp_great (hb : H b = some (.dK (boxL g at' rest many great all))) : DPut H b (.str "great") (.bl y) (upd H b (.dK (boxL g at' rest many y all))) := .inl ⟨_, .inr "great", hb, rfl, by show 6 < sizeLine; decide, rfl⟩
theorem bp_all (hb : H b = some (.dK (boxL g at' rest many great all))) : DPut H b (.str "all") (.int x) (upd H b (.dK (boxL g at' rest many great x))) := .inl ⟨_, .inr "all", hb, rfl, by show 6 < sizeLine; decide, rfl⟩
end
def spMixd : Sp := fun vs H Q _ => ∃ i j : Int, vs = [.int i, .int j] ∧ ∀ r : Int, 0 ≤ r → r < 2147483399 → Q (.int r) H
def spBox (K : PySem.W.Frag) : Sp := fun vs H Q _ => ∃ (a : Addr) (ns : List Int), vs = [.ref a] ∧ SqL K H a (ns.map V.int) ∧ ∀ H' b g, Same H H' → BoxAt H' b g → Q (.ref b) H'
def spRefill : Sp := fun vs H Q _ => ∃ (b g : Addr), vs = [.ref b] ∧ BoxAt H b g ∧ ∀ H', BL [b] H H' → BoxAt H' b g → Q .non H'
def spDraw : Sp := fun vs H Q _ => ∃ (b g : Addr) (m : Int), vs = [.ref b, .int m] ∧ BoxAt H b g ∧ 0 < m ∧ m.natAbs < 2 ^ 200 ∧ ∀ H' r, BL [b] H H' → BoxAt H' b g → 0 ≤ r → r < m → Q (.int r) H'
section
variable {P : Program} {w : World} {K : PySem.W.Frag} {mg : Str → Option Value} {base : Heap}
theorem scMixd : FnScope ["number", "place"] ["number", "place"] (defScope sMixd) := ⟨rfl, rfl, rfl, by decide +kernel, rfl, by decide +kernel, by decide +kernel⟩
theorem ok_mixd {f : Addr} {fd : FuncData} {k : Nat} (F : Fun K "_law_mixed" "_law_mixed" sMixd f fd) (T : Tx mg) : FnOk P w K mg base CX0 (k + 1) f fd ["number", "place"] spMixd := by
  refine F.ok scMixd (fun vs H Q E h => ?_) (fun cdv A outer s H vs Q E hr h => ?_)
  · obtain ⟨i, j, rfl, _⟩ := h
    rfl
  · obtain ⟨i, j, rfl, q⟩ := h
    refine ⟨_, (pss_cons (ps_set (i := 0) scMixd.nd rfl (Or.inl rfl) (pe_op op_mod (pe_callTy call_int1 (by rfl) T.int_ (by decide +kernel) (pa_cons (pe_op op_mul (pe_op op_add (pe_op op_add (pv 0) (pe_op op_mul pe_int (pv 1))) pe_int) pe_int) pa_nil)) pe_int)) (pss_cons (ps_set (i := 0) scMixd.nd rfl (Or.inl rfl) (pe_op op_mod (pe_callTy call_int1 (by rfl) T.int_ (by decide +kernel) (pa_cons (pe_op op_mul (pv 0) (pe_op op_add (pe_op op_fdiv (pv 0) pe_int) pe_int)) pa_nil)) pe_int)) (pss_one (ps_ret (pe_op op_mod (pe_callTy call_int1 (by rfl) T.int_ (by decide +kernel) (pa_cons (pe_op op_mul (pv 0) (pe_op op_add (pe_op op_fdiv (pv 0) pe_int) pe_int)) pa_nil)) pe_int))))), ?_⟩
    refine ⟨_, rfl, _, rfl, _, _, rfl, rfl, .inl ⟨by decide, by decide⟩, _, _, rfl, rfl, _, _, rfl, rfl, _, _, rfl, rfl, .inr ⟨by decide, by decide⟩, .inl ⟨_, rfl, _, _, rfl, rfl, (by show (0 : Int) < 2147483647; decide), ?_⟩⟩
    generalize hn1 : ((i + 7919 * j + 1) * 48271 % 2147483647 : Int) = n1
    have r1 : 0 ≤ n1 ∧ n1 < 2147483647 := by
      rw [← hn1]
      exact mod_in (by decide)
    refine ⟨_, rfl, _, rfl, _, _, rfl, rfl, ⟨by decide, by decide⟩, _, _, rfl, rfl, _, _, rfl, rfl, .inl ⟨by omega, by omega⟩, .inl ⟨_, rfl, _, _, rfl, rfl, (by show (0 : Int) < 2147483647; decide), ?_⟩⟩
    generalize hn2 : (n1 * (n1 / 1009 + 69621) % 2147483647 : Int) = n2
    have r2 : 0 ≤ n2 ∧ n2 < 2147483647 := by
      rw [← hn2]
      exact mod_in (by decide)
    refine ⟨_, rfl, _, rfl, _, _, rfl, rfl, ⟨by decide, by decide⟩, _, _, rfl, rfl, _, _, rfl, rfl, .inl ⟨by omega, by omega⟩, .inl ⟨_, rfl, _, _, rfl, rfl, (by show (0 : Int) < 2147483399; decide), ?_⟩⟩
    exact q _ (mod_in (by decide)).1 (mod_in (by decide)).2
theorem scBox : FnScope ["script"] ["script"] (defScope sBox) := ⟨rfl, rfl, rfl, by decide +kernel, rfl, by decide +kernel, by decide +kernel⟩
theorem ok_box {f : Addr} {fd : FuncData} {k : Nat} (F : Fun K "_law_box" "_law_box" sBox f fd) (T : Tx mg) : FnOk P w K mg base CX0 (k + 1) f fd ["script"] (spBox K) := by
  refine F.ok scBox (fun vs H Q E h => ?_) (fun cdv A outer s H vs Q E hr h => ?_)
  · obtain ⟨a, ns, rfl, _⟩ := h
    rfl
  · obtain ⟨a, ns, rfl, hS, q⟩ := h
    refine ⟨_, (pss_one (ps_ret (pe_disp (pps_cons pe_str (pe_callTy call_list_of (by rfl) T.list_ (by decide +kernel) (pa_cons (pv 0) pa_nil)) (pps_cons pe_str pe_int (pps_cons pe_str pe_int (pps_cons pe_str pe_int (pps_cons pe_str pe_bl (pps_cons pe_str pe_int pps_nil)))))) (by rfl) (by rfl) (fun z => by cases z) (by decide)))), ?_⟩
    refine fun p np => ?_
    have s1 := same_upd (o := HO.dK []) np
    refine ⟨_, rfl, a, _, rfl, .inl (seqL s1 hS), fun l nl => ?_⟩
    have s2 := same_upd (o := HO.lst (ns.map V.int)) nl
    have ngp : l ≠ p := fun e => by rw [e, upd_same] at nl; cases nl
    refine ⟨s2 _ _ upd_same, boxL l 0 0 0 false 0, rfl, by show 6 ≤ 15; decide, ?_⟩
    refine q _ p l (same_put (s1.trans s2) np) ⟨ns, 0, 0, 0, 0, false, upd_same, ?_, by decide, by decide⟩
    rw [upd_ne ngp]
    exact upd_same
theorem scRefill : FnScope ["box", "cell"] ["box"] (defScope sRefill) := ⟨rfl, rfl, rfl, by decide +kernel, rfl, by decide +kernel, by decide +kernel⟩
theorem ok_refill {f : Addr} {fd : FuncData} {k : Nat} (F : Fun K "_law_refill" "_law_refill" sRefill f fd) (T : Tx mg) (cM : Cal P w K mg base (k + 1) "_law_mixed" ["number", "place"] spMixd) : FnOk P w K mg base CX0 (k + 2) f fd ["box"] spRefill := by
  refine F.ok scRefill (fun vs H Q E h => ?_) (fun cdv A outer s H vs Q E hr h => ?_)
  · obtain ⟨b, g, rfl, _⟩ := h
    rfl
  · obtain ⟨b, g, rfl, ⟨ns, at', rest, many, all, great, hb, hg, ha, hr0⟩, q⟩ := h
    have ngb : g ≠ b := BoxAt.ne ⟨ns, at', rest, many, all, great, hb, hg, ha, hr0⟩
    refine ⟨_, (pss_cons (ps_set (i := 1) scRefill.nd rfl (Or.inl rfl) (pe_dget (u1 hr) (pv 0) pe_str (fun _ _ => rfl))) (pss_cons (ps_if (pt_cmpR op_lt (pe_dget (u1 hr) (pv 0) pe_str (fun _ _ => rfl)) (pe_callB call_len_seq (by rfl) T.len_ PySem.boot_len (pa_cons (pe_dget (u1 hr) (pv 0) pe_str (fun _ _ => rfl)) pa_nil)) (nomark _)) (pss_one (ps_set (i := 1) scRefill.nd rfl (Or.inl rfl) (pe_callTy call_int1 (by rfl) T.int_ (by decide +kernel) (pa_cons (pe_ix ix_list (pe_dget (u1 hr) (pv 0) pe_str (fun _ _ => rfl)) (pe_dget (u1 hr) (pv 0) pe_str (fun _ _ => rfl)) (fun _ _ => rfl)) pa_nil)))) pss_nil) (pss_cons (ps_daug (u1 hr) (pv 0) pe_str pe_int in_add (fun _ _ _ => rfl)) (pss_cons (ps_dput (u1 hr) (pv 0) pe_str (pe_cmpR op_ge (pv 1) (pe_op op_pow pe_int pe_int) (nomark _)) rfl) (pss_cons (ps_dput (u1 hr) (pv 0) pe_str (pe_ifExp (pt_val (pe_dget (u1 hr) (pv 0) pe_str (fun _ _ => rfl))) (pv 1) (pe_c cM hr (by omega) (by rfl) (pa_cons (pe_op op_mod (pe_callTy call_int1 (by rfl) T.int_ (by decide +kernel) (pa_cons (pv 1) pa_nil)) pe_int) (pa_cons (pe_dget (u1 hr) (pv 0) pe_str (fun _ _ => rfl)) pa_nil)))) rfl) (pss_one (ps_dput (u1 hr) (pv 0) pe_str (pe_ifExp (pt_val (pe_dget (u1 hr) (pv 0) pe_str (fun _ _ => rfl))) pe_int pe_int) rfl))))))), ?_⟩
    refine seq_set ⟨_, rfl, b, _, rfl, bx_all hb, ?_⟩
    dsimp only
    refine seq_use (fun σ G => ∃ c : Int, σ = [some (.ref b), some (.int c)] ∧ G = H) ?_ (fun hrest => ?_)
    · rintro σ G ⟨c, rfl, rfl⟩
      refine ⟨_, rfl, b, _, rfl, bx_at hb, _, _, rfl, rfl, _, bp_at hb, ?_⟩
      have hb1 : (upd G b (.dK (boxL g (at' + 1) rest many great all))) b = some (.dK (boxL g (at' + 1) rest many great all)) := upd_same
      refine ⟨_, rfl, _, _, rfl, rfl, ⟨by decide, by decide, by decide⟩, _, _, rfl, rfl, _, rfl, b, _, rfl, bp_great hb1, ?_⟩
      rw [upd_upd]
      generalize hy : decide ((10 : Int) ^ (Int.toNat 18) ≤ c) = y
      have hb2 : (upd G b (.dK (boxL g (at' + 1) rest many y all))) b = some (.dK (boxL g (at' + 1) rest many y all)) := upd_same
      dsimp only
      refine seq_use (fun σ G2 => ∃ rs : Int, σ = [some (.ref b), some (.int c)] ∧ 0 ≤ rs ∧ G2 = upd G b (.dK (boxL g (at' + 1) rs many y all))) ?_ (fun hr2 => ?_)
      · rintro σ G2 ⟨rs, rfl, hrs, rfl⟩
        have hb3 : (upd G b (.dK (boxL g (at' + 1) rs many y all))) b = some (.dK (boxL g (at' + 1) rs many y all)) := upd_same
        have fin : ∀ mm : Int, Q .non (upd (upd G b (.dK (boxL g (at' + 1) rs many y all))) b (.dK (boxL g (at' + 1) rs mm y all))) := fun mm => by
          rw [upd_upd]
          exact q _ (.upd (by simp)) ⟨ns, at' + 1, rs, mm, all, y, upd_same, by rw [upd_ne ngb]; exact hg, by omega, hrs⟩
        refine ⟨_, rfl, b, _, rfl, bx_great hb3, _, rfl, ite2 (fun _ => ⟨_, rfl, b, _, rfl, bp_many hb3, fin _⟩) (fun _ => ⟨_, rfl, b, _, rfl, bp_many hb3, fin _⟩)⟩
      · refine ⟨_, rfl, b, _, rfl, bx_great hb2, _, rfl, ite2 (fun hc => ⟨_, rfl, _, rfl, b, _, rfl, bp_rest hb2, ?_⟩) (fun _ => ⟨_, rfl, .inl ⟨c, rfl, _, _, rfl, rfl, (by show (0 : Int) < 2147483647; decide), _, rfl, b, _, rfl, bx_at hb2, _, _, rfl, fun r r0 _ => ⟨_, rfl, b, _, rfl, bp_rest hb2, ?_⟩⟩⟩)⟩
        · rw [upd_upd]
          refine hr2 _ _ ⟨c, rfl, ?_, rfl⟩
          have h18 : (10 : Int) ^ (Int.toNat 18) ≤ c := of_decide_eq_true (hy.trans hc)
          have h0 : (0 : Int) ≤ (10 : Int) ^ (Int.toNat 18) := by decide
          omega
        · rw [upd_upd]
          exact hr2 _ _ ⟨r, rfl, r0, rfl⟩
    · refine ⟨_, rfl, b, _, rfl, bx_at hb, _, rfl, b, _, rfl, bx_cells hb, g, _, rfl, .inl (.of hg), _, _, rfl, rfl, _, rfl, ?_⟩
      refine ite2 (fun hl => ?_) (fun _ => hrest _ _ ⟨all, rfl, rfl⟩)
      have hl2 := of_decide_eq_true hl
      rw [List.length_map] at hl2
      obtain ⟨j, rfl⟩ : ∃ j : Nat, at' = j := ⟨at'.toNat, by omega⟩
      have hj : j < ns.length := by omega
      exact ⟨_, rfl, b, _, rfl, bx_cells hb, _, rfl, b, _, rfl, bx_at hb, g, _, _, .int ns[j], rfl, rfl, .of hg, atI_nat (by rw [List.getElem?_map, List.getElem?_eq_getElem hj]; rfl), .inl ⟨_, rfl, hrest _ _ ⟨ns[j], rfl, rfl⟩⟩⟩
theorem scDraw : FnScope ["box", "menu", "rest"] ["box", "menu"] (defScope sDraw) := ⟨rfl, rfl, rfl, by decide +kernel, rfl, by decide +kernel, by decide +kernel⟩
theorem ok_draw {f : Addr} {fd : FuncData} {k : Nat} (F : Fun K "_law_draw" "_law_draw" sDraw f fd) (T : Tx mg) (cM : Cal P w K mg base (k + 2) "_law_mixed" ["number", "place"] spMixd) (cR : Cal P w K mg base (k + 2) "_law_refill" ["box"] spRefill) : FnOk P w K mg base CX0 (k + 3) f fd ["box", "menu"] spDraw := by
  refine F.ok scDraw (fun vs H Q E h => ?_) (fun cdv A outer s H vs Q E hr h => ?_)
  · obtain ⟨b, g, m, rfl, _⟩ := h
    rfl
  · obtain ⟨b, g, m, rfl, hB, hm0, hm1, q⟩ := h
    refine ⟨_, (pss_cons (ps_if (pt_or (pt_cmpR op_eq (pe_dget (u1 hr) (pv 0) pe_str (fun _ _ => rfl)) pe_int (nomark _)) (pw_or1 (pt_and (pt_val (pe_dget (u1 hr) (pv 0) pe_str (fun _ _ => rfl))) (pw_and1 (pt_cmpR op_eq (pe_dget (u1 hr) (pv 0) pe_str (fun _ _ => rfl)) pe_int (nomark _)))))) (pss_one (ps_expr (pe_c cR hr (by omega) (by rfl) (pa_cons (pv 0) pa_nil)))) pss_nil) (pss_cons (ps_daug (u1 hr) (pv 0) pe_str pe_int in_sub (fun _ _ _ => rfl)) (pss_cons (ps_daug (u1 hr) (pv 0) pe_str pe_int in_add (fun _ _ _ => rfl)) (pss_cons (ps_set (i := 2) scDraw.nd rfl (Or.inl rfl) (pe_callTy call_int1 (by rfl) T.int_ (by decide +kernel) (pa_cons (pe_dget (u1 hr) (pv 0) pe_str (fun _ _ => rfl)) pa_nil))) (pss_cons (ps_if (pt_val (pe_dget (u1 hr) (pv 0) pe_str (fun _ _ => rfl))) (pss_cons (ps_dput (u1 hr) (pv 0) pe_str (pe_op op_fdivW (pv 2) (pv 1)) rfl) (pss_one (ps_ret (pe_op op_mod (pe_callTy call_int1 (by rfl) T.int_ (by decide +kernel) (pa_cons (pv 2) pa_nil)) (pv 1))))) pss_nil) (pss_cons (ps_dput (u1 hr) (pv 0) pe_str (pe_c cM hr (by omega) (by rfl) (pa_cons (pv 2) (pa_cons (pe_dget (u1 hr) (pv 0) pe_str (fun _ _ => rfl)) pa_nil))) rfl) (pss_one (ps_ret (pe_op op_mod (pe_callTy call_int1 (by rfl) T.int_ (by decide +kernel) (pa_cons (pe_op op_fdiv (pv 2) pe_int) pa_nil)) (pv 1)))))))))), ?_⟩
    refine seq_use (fun σ G => σ = [some (.ref b), some (.int m), none] ∧ BL [b] H G ∧ BoxAt G b g) ?_ (fun hrest => ?_)
    · rintro σ G ⟨rfl, bl, hBG⟩
      have ngb := hBG.ne
      obtain ⟨ns, at', rest, many, all, great, hb, hg, ha, hr0⟩ := hBG
      refine ⟨_, rfl, b, _, rfl, bx_many hb, _, _, rfl, rfl, _, bp_many hb, ?_⟩
      have hb1 : (upd G b (.dK (boxL g at' rest (many - 1) great all))) b = some (.dK (boxL g at' rest (many - 1) great all)) := upd_same
      refine ⟨_, rfl, b, _, rfl, bx_all hb1, _, _, rfl, rfl, _, bp_all hb1, ?_⟩
      rw [upd_upd]
      have hb2 : (upd G b (.dK (boxL g at' rest (many - 1) great (all + 1)))) b = some (.dK (boxL g at' rest (many - 1) great (all + 1))) := upd_same
      have fin : ∀ (rs v : Int), 0 ≤ rs → 0 ≤ v → v < m → Q (.int v) (upd (upd G b (.dK (boxL g at' rest (many - 1) great (all + 1)))) b (.dK (boxL g at' rs (many - 1) great (all + 1)))) := fun rs v h0 h1 h2 => by
        rw [upd_upd]
        exact q _ v (bl.trans (.upd (by simp))) ⟨ns, at', rs, many - 1, all + 1, great, upd_same, by rw [upd_ne ngb]; exact hg, ha, h0⟩ h1 h2
      refine ⟨_, rfl, b, _, rfl, bx_rest hb2, .inl ⟨rest, rfl, ?_⟩⟩
      refine ⟨_, rfl, b, _, rfl, bx_great hb2, _, rfl, ?_⟩
      refine ite2 (fun _ => ?_) (fun _ => ?_)
      · refine ⟨_, rfl, _, rfl, _, _, rfl, rfl, wide_div hm0 hm1 (by decide) (by decide), _, rfl, b, _, rfl, bp_rest hb2, ?_⟩
        exact ⟨_, rfl, .inl ⟨rest, rfl, _, rfl, _, _, rfl, rfl, hm0, fin _ _ (Int.ediv_nonneg hr0 (by omega)) (mod_in hm0).1 (mod_in hm0).2⟩⟩
      · refine ⟨_, rfl, _, rfl, b, _, rfl, bx_all hb2, _, _, rfl, fun r r0 _ => ⟨_, rfl, b, _, rfl, bp_rest hb2, ?_⟩⟩
        exact ⟨_, rfl, _, _, rfl, rfl, ⟨by decide, by decide⟩, .inl ⟨_, rfl, _, rfl, _, _, rfl, rfl, hm0, fin _ _ r0 (mod_in hm0).1 (mod_in hm0).2⟩⟩
    · obtain ⟨ns, at', rest, many, all, great, hb, hg, ha, hr0⟩ := id hB
      refine ⟨_, rfl, b, _, rfl, bx_many hb, rfl, _, rfl, ?_⟩
      refine ite2 (fun _ => ⟨_, rfl, b, g, rfl, hB, fun G bl hBG => hrest _ _ ⟨rfl, bl, hBG⟩⟩) (fun _ => ?_)
      refine ⟨_, rfl, b, _, rfl, bx_great hb, _, rfl, ?_⟩
      cases great with
      | false => exact iteF (hrest _ _ ⟨rfl, .refl, hB⟩)
      | true =>
        refine iteT ⟨_, rfl, b, _, rfl, bx_rest hb, rfl, _, rfl, ?_⟩
        exact ite2 (fun _ => ⟨_, rfl, b, g, rfl, hB, fun G bl hBG => hrest _ _ ⟨rfl, bl, hBG⟩⟩) (fun _ => hrest _ _ ⟨rfl, .refl, hB⟩)
end
end L2.My
end
section
set_option Elab.async false
set_option linter.all false
set_option maxRecDepth 100000
set_option maxHeartbeats 4000000
namespace L2.My
open PySem PySem.Spec PyProof.Rows
abbrev sBelow : Stmt := top 6
abbrev sWord : Stmt := top 9
/-! ### things of any kind: seen as deep as one likes, none the hand at b -/
/-- no int is greater -/
def maxI : Int := 10 ^ 40
def Sh0 (b : Addr) (H : Hp) (v : V) : Prop := (∃ t, ThT H v t) ∧ v ≠ .ref b ∧ (∀ z, v = .str z → z.length ≤ 5000) ∧ ∀ i, v = .int i → i ≤ maxI
def Sh (b : Addr) (H : Hp) : Nat → V → Prop
  | 0, v => Sh0 b H v
  | n + 1, v => Sh0 b H v ∧ ∀ a xs, v = .ref a → H a = some (.tup xs) → xs.length ≤ 5000 ∧ ∀ x ∈ xs, Sh b H n x
def Thg (b : Addr) (H : Hp) (v : V) : Prop := ∀ n, Sh b H n v
theorem ThT.stay {b : Addr} {H H' : Hp} {v : V} {t : String} (h : ThT H v t) (n : v ≠ .ref b) (s : BL [b] H H') : ThT H' v t := by
  cases h with
  | non => exact .non
  | bl c => exact .bl c
  | int i => exact .int i
  | str x => exact .str x
  | lst h => exact .lst (s _ _ (by simpa using fun e => n (by rw [e])) h)
  | tup h => exact .tup (s _ _ (by simpa using fun e => n (by rw [e])) h)
  | dct h => exact .dct (s _ _ (by simpa using fun e => n (by rw [e])) h)
theorem Sh0.bl {b : Addr} {H H' : Hp} {v : V} (h : Sh0 b H v) (s : BL [b] H H') : Sh0 b H' v := by
  obtain ⟨⟨t, h1⟩, h2, h3⟩ := h
  exact ⟨⟨t, h1.stay h2 s⟩, h2, h3⟩
theorem ThT.back {b : Addr} {H H' : Hp} {a : Addr} {t : String} (h : ThT H (.ref a) t) (n : V.ref a ≠ .ref b) (s : BL [b] H H') {xs : List V} (e : H' a = some (.tup xs)) : H a = some (.tup xs) := by
  have nb : a ∉ [b] := by simpa using fun e => n (by rw [e])
  cases h with
  | lst h => rw [s _ _ nb h] at e; cases e
  | tup h => rw [s _ _ nb h] at e; cases e; exact h
  | dct h => rw [s _ _ nb h] at e; cases e
theorem Sh.bl {b : Addr} {H H' : Hp} (s : BL [b] H H') : ∀ {n : Nat} {v : V}, Sh b H n v → Sh b H' n v
  | 0, v, h => Sh0.bl h s
  | n + 1, v, h => by
    refine ⟨h.1.bl s, fun a xs e ea => ?_⟩
    subst e
    obtain ⟨⟨t, h1⟩, h2, _⟩ := h.1
    obtain ⟨q1, q2⟩ := h.2 a xs rfl (h1.back h2 s ea)
    exact ⟨q1, fun x hx => Sh.bl s (q2 x hx)⟩
theorem Thg.bl {b : Addr} {H H' : Hp} {v : V} (h : Thg b H v) (s : BL [b] H H') : Thg b H' v := fun n => (h n).bl s
theorem Thg.same {b : Addr} {H H' : Hp} {v : V} (h : Thg b H v) (s : Same H H') : Thg b H' v := h.bl (.same s)
theorem Thg.th {b : Addr} {H : Hp} {v : V} (h : Thg b H v) : ∃ t, ThT H v t := (h 0).1
theorem Thg.len {b : Addr} {H : Hp} {z : Str} (h : Thg b H (.str z)) : z.length ≤ 5000 := (h 0).2.2.1 z rfl
theorem Thg.sub {b a : Addr} {H : Hp} {xs : List V} (h : Thg b H (.ref a)) (e : H a = some (.tup xs)) : xs.length ≤ 5000 ∧ ∀ x ∈ xs, Thg b H x := ⟨((h 1).2 a xs rfl e).1, fun x hx n => ((h (n + 1)).2 a xs rfl e).2 x hx⟩
theorem Thg.tup {b a : Addr} {H : Hp} {xs : List V} (e : H a = some (.tup xs)) (n : a ≠ b) (hl : xs.length ≤ 5000) (h : ∀ x ∈ xs, Thg b H x) : Thg b H (.ref a) := by
  have h0 : Sh0 b H (.ref a) := ⟨⟨_, .tup e⟩, fun z => n (V.ref.inj z), (fun z q => nomatch q), fun i q => nomatch q⟩
  intro k
  cases k with
  | zero => exact h0
  | succ k =>
    refine ⟨h0, fun a' ys q e' => ?_⟩
    cases q
    rw [e] at e'
    cases e'
    exact ⟨hl, fun x hx => h x hx k⟩
theorem Thg.lst {b a : Addr} {H : Hp} {xs : List V} (e : H a = some (.lst xs)) (n : a ≠ b) : Thg b H (.ref a) := by
  have h0 : Sh0 b H (.ref a) := ⟨⟨_, .lst e⟩, fun z => n (V.ref.inj z), (fun z q => nomatch q), fun i q => nomatch q⟩
  intro k
  cases k with
  | zero => exact h0
  | succ k =>
    refine ⟨h0, fun a' ys q e' => ?_⟩
    cases q
    rw [e] at e'
    cases e'
theorem Thg.dct {b a : Addr} {H : Hp} {kvs : List (Key × V)} (e : H a = some (.dK kvs)) (n : a ≠ b) : Thg b H (.ref a) := by
  have h0 : Sh0 b H (.ref a) := ⟨⟨_, .dct e⟩, fun z => n (V.ref.inj z), (fun z q => nomatch q), fun i q => nomatch q⟩
  intro k
  cases k with
  | zero => exact h0
  | succ k =>
    refine ⟨h0, fun a' ys q e' => ?_⟩
    cases q
    rw [e] at e'
    cases e'
theorem thg_flat {b : Addr} {H : Hp} {v : V} (h0 : Sh0 b H v) (h : ∀ a, v ≠ .ref a) : Thg b H v := by
  intro k
  cases k with
  | zero => exact h0
  | succ k => exact ⟨h0, fun a xs e _ => absurd e (h a)⟩
theorem Thg.non {b : Addr} {H : Hp} : Thg b H .non := thg_flat ⟨⟨_, .non⟩, (fun z => nomatch z), (fun z q => nomatch q), fun i q => nomatch q⟩ fun a z => nomatch z
theorem Thg.int {b : Addr} {H : Hp} (i : Int) (h : i ≤ maxI) : Thg b H (.int i) := thg_flat ⟨⟨_, .int i⟩, (fun z => nomatch z), (fun z q => nomatch q), fun j q => by cases q; exact h⟩ fun a z => nomatch z
theorem Thg.le {b : Addr} {H : Hp} {i : Int} (h : Thg b H (.int i)) : i ≤ maxI := (h 0).2.2.2 i rfl
theorem Thg.boo {b : Addr} {H : Hp} (i : Bool) : Thg b H (.bl i) := thg_flat ⟨⟨_, .bl i⟩, (fun z => nomatch z), (fun z q => nomatch q), fun i q => nomatch q⟩ fun a z => nomatch z
theorem Thg.str {b : Addr} {H : Hp} (z : Str) (h : z.length ≤ 5000) : Thg b H (.str z) := thg_flat ⟨⟨_, .str z⟩, (fun z => nomatch z), (fun y q => by cases q; exact h), fun i q => nomatch q⟩ fun a z => nomatch z
/-! ### the verdicts, read off the heap -/
def tupO : Option HO → Option (List V)
  | some (.tup xs) => some xs
  | _ => none
def tupOf (H : Hp) : V → Option (List V)
  | .ref a => tupO (H a)
  | _ => none
def signB (c : Nat) : Bool := decide (97 ≤ c) && decide (c ≤ 122)
def wordB (z : Str) : Bool := decide (1 ≤ z.length) && (decide (z.length ≤ 12) && z.cps.toList.all signB)
def wordV : V → Bool
  | .str z => wordB z
  | _ => false
theorem tupOf_at {H : Hp} {a : Addr} {xs : List V} (h : H a = some (.tup xs)) : tupOf H (.ref a) = some xs := by
  show tupO (H a) = _
  rw [h]
  rfl
theorem tupOf_lst {H : Hp} {a : Addr} {xs : List V} (h : H a = some (.lst xs)) : tupOf H (.ref a) = none := by
  show tupO (H a) = _
  rw [h]
  rfl
theorem tupOf_dct {H : Hp} {a : Addr} {xs : List (Key × V)} (h : H a = some (.dK xs)) : tupOf H (.ref a) = none := by
  show tupO (H a) = _
  rw [h]
  rfl
theorem tup_cases {H : Hp} {v : V} {t : String} (h : ThT H v t) : (∃ a xs, v = .ref a ∧ H a = some (.tup xs) ∧ tupOf H v = some xs ∧ t = "tuple") ∨ (tupOf H v = none ∧ instT t "tuple" = false) := by
  cases h with
  | non => exact .inr ⟨rfl, by decide⟩
  | bl c => exact .inr ⟨rfl, by decide⟩
  | int i => exact .inr ⟨rfl, by decide⟩
  | str x => exact .inr ⟨rfl, by decide⟩
  | lst h => exact .inr ⟨tupOf_lst h, by decide⟩
  | tup h => exact .inl ⟨_, _, rfl, h, tupOf_at h, rfl⟩
  | dct h => exact .inr ⟨tupOf_dct h, by decide⟩
theorem str_cases {H : Hp} {v : V} {t : String} (h : ThT H v t) : (∃ z, v = .str z ∧ t = "str") ∨ (wordV v = false ∧ instT t "str" = false) := by
  cases h with
  | str x => exact .inl ⟨x, rfl, rfl⟩
  | _ => exact .inr ⟨rfl, by decide⟩
theorem int_cases {H : Hp} {v : V} {t : String} {n : Int} (h : ThT H v t) : (∃ i, v = .int i ∧ t = "int") ∨ (∃ c, v = .bl c ∧ t = "bool") ∨ (belowV n v = false ∧ instT t "int" = false) := by
  cases h with
  | int i => exact .inl ⟨i, rfl, rfl⟩
  | bl c => exact .inr (.inl ⟨c, rfl, rfl⟩)
  | _ => exact .inr (.inr ⟨rfl, by decide⟩)
theorem tupOf_bl {b : Addr} {H H' : Hp} {v : V} (h : Thg b H v) (s : BL [b] H H') : tupOf H' v = tupOf H v := by
  obtain ⟨⟨t, h1⟩, h2, _⟩ := h 0
  cases h1 with
  | non => rfl
  | bl c => rfl
  | int i => rfl
  | str x => rfl
  | lst h' =>
    have e := s _ _ (by simpa using fun e => h2 (by rw [e])) h'
    rw [tupOf_lst h', tupOf_lst e]
  | tup h' =>
    have e := s _ _ (by simpa using fun e => h2 (by rw [e])) h'
    rw [tupOf_at h', tupOf_at e]
  | dct h' =>
    have e := s _ _ (by simpa using fun e => h2 (by rw [e])) h'
    rw [tupOf_dct h', tupOf_dct e]
theorem tupOf_sub {b : Addr} {H : Hp} {v : V} {xs : List V} (h : Thg b H v) (e : tupOf H v = some xs) : ∃ a, v = .ref a ∧ H a = some (.tup xs) ∧ xs.length ≤ 5000 ∧ ∀ x ∈ xs, Thg b H x := by
  obtain ⟨t, ht⟩ := h.th
  rcases tup_cases ht with ⟨a, ys, rfl, h1, h2, _⟩ | ⟨h1, _⟩
  · rw [h2] at e
    cases e
    obtain ⟨q1, q2⟩ := h.sub h1
    exact ⟨a, rfl, h1, q1, q2⟩
  · rw [h1] at e; cases e
theorem all_congr {α : Type} {p q : α → Bool} : ∀ {xs : List α}, (∀ x ∈ xs, p x = q x) → xs.all p = xs.all q
  | [], _ => rfl
  | x :: r, h => by
    rw [List.all_cons, List.all_cons, h x List.mem_cons_self, all_congr fun y hy => h y (List.mem_cons_of_mem _ hy)]
theorem range_all {α : Type} (p : α → Bool) (d : α) (xs : List α) : ((List.range xs.length).map fun i => p (xs.getD i d)).all id = xs.all p := by
  rw [List.all_map]
  induction xs with
  | nil => rfl
  | cons x r ih =>
    rw [List.length_cons, List.range_succ_eq_map, List.all_cons, List.all_cons, List.all_map]
    rw [← ih]
    rfl
/-! ### the judges -/
def spBelow : Sp := fun vs H Q _ => ∃ (b : Addr) (n : Int) (v : V), vs = [.int n, v] ∧ Thg b H v ∧ Q (.bl (belowV n v)) H
def spWord : Sp := fun vs H Q _ => ∃ (b : Addr) (v : V), vs = [v] ∧ Thg b H v ∧ ∀ H', Same H H' → Q (.bl (wordV v)) H'
section
variable {P : Program} {w : World} {K : PySem.W.Frag} {mg : Str → Option Value} {base : Heap}
theorem scBelow : FnScope ["bound", "thing"] ["bound", "thing"] (defScope sBelow) := ⟨rfl, rfl, rfl, by decide +kernel, rfl, by decide +kernel, by decide +kernel⟩
theorem ok_below {f : Addr} {fd : FuncData} {k : Nat} (F : Fun K "is_below" "is_below" sBelow f fd) (T : Tx mg) : FnOk P w K mg base CX0 (k + 1) f fd ["bound", "thing"] spBelow := by
  refine F.ok scBelow (fun vs H Q E h => ?_) (fun cdv A outer s H vs Q E hr h => ?_)
  · obtain ⟨b, n, v, rfl, _⟩ := h
    rfl
  · obtain ⟨b, n, v, rfl, hv, q⟩ := h
    obtain ⟨t, ht⟩ := hv.th
    refine ⟨_, (pss_cons (ps_if (pt_or (pt_not (pt_val (pe_callB call_isTh (by rfl) T.isi (by decide +kernel) (pa_cons (pv 1) (pa_cons (pe_bltn (v := .ty "int") (u := .type "int") (by rfl) T.int_ (by decide +kernel) rfl) pa_nil))))) (pw_or1 (pt_val (pe_callB call_isTh (by rfl) T.isi (by decide +kernel) (pa_cons (pv 1) (pa_cons (pe_bltn (v := .ty "bool") (u := .type "bool") (by rfl) T.bool_ (by decide +kernel) rfl) pa_nil)))))) (pss_one (ps_ret pe_bl)) pss_nil) (pss_one (ps_ret (pe_chain op_le op_lt pe_int (pv 1) (pv 0))))), ?_⟩
    refine ⟨_, rfl, _, "int", t, rfl, ht, by decide, _, rfl, ?_⟩
    rcases int_cases (n := n) ht with ⟨i, rfl, rfl⟩ | ⟨c, rfl, rfl⟩ | ⟨e1, e2⟩
    · refine iteF ⟨_, rfl, _, "bool", _, rfl, .int i, by decide, _, rfl, iteF ?_⟩
      refine ⟨_, rfl, _, _, rfl, rfl, _, rfl, ?_⟩
      by_cases h0 : 0 ≤ i
      · rw [decide_eq_true h0]
        refine iteT ⟨_, rfl, _, _, rfl, rfl, ?_⟩
        have e : belowV n (.int i) = decide (i < n) := by
          show decide (0 ≤ i ∧ i < n) = _
          simp [h0]
        rw [e] at q
        exact q
      · rw [decide_eq_false h0]
        refine iteF ?_
        have e : belowV n (.int i) = false := decide_eq_false fun z => h0 z.1
        rw [e] at q
        exact q
    · exact iteF ⟨_, rfl, _, "bool", _, rfl, .bl c, by decide, _, rfl, iteT q⟩
    · rw [e2]
      rw [e1] at q
      exact iteT q
theorem scWord : FnScope ["thing", "sign"] ["thing"] (defScope sWord) := ⟨rfl, rfl, rfl, by decide +kernel, rfl, by decide +kernel, by decide +kernel⟩
theorem ok_word {f : Addr} {fd : FuncData} {k : Nat} (F : Fun K "is_word" "is_word" sWord f fd) (T : Tx mg) : FnOk P w K mg base CX0 (k + 1) f fd ["thing"] spWord := by
  obtain ⟨tm, hm⟩ := T.ml
  refine F.ok scWord (fun vs H Q E h => ?_) (fun cdv A outer s H vs Q E hr h => ?_)
  · obtain ⟨b, v, rfl, _⟩ := h
    rfl
  · obtain ⟨b, v, rfl, hv, q⟩ := h
    obtain ⟨t, ht⟩ := hv.th
    refine ⟨_, (pss_cons (ps_if (pt_or (pt_not (pt_val (pe_callB call_isTh (by rfl) T.isi (by decide +kernel) (pa_cons (pv 0) (pa_cons (pe_bltn (v := .ty "str") (u := .type "str") (by rfl) T.str_ (by decide +kernel) rfl) pa_nil))))) (pw_or1 (pt_not (pt_chain op_le op_le pe_int (pe_callB call_len_str (by rfl) T.len_ PySem.boot_len (pa_cons (pv 0) pa_nil)) (pe_glob (v := .int 12) (by rfl) hm ⟨_, rfl⟩))))) (pss_one (ps_ret pe_bl)) pss_nil) (pss_one (ps_ret (pe_callB (cr_all rfl) (by rfl) T.all_ (by decide +kernel) (pa_cons (pe_lc (own := [("sign", 1)]) (g := gName 1) rfl scWord.nd (pi_str (pv 0)) (blkOk_by (N := ["thing", "sign"]) (sc := defScope sWord) (by decide +kernel)) (fun _ _ _ _ _ => pg_name (i := 1) scWord.nd rfl (Or.inl rfl)) (fun _ _ _ _ _ => pts_nil) (fun _ _ _ _ _ => (pe_chain op_le_str op_le_str pe_str (pv 1) pe_str))) pa_nil))))), ?_⟩
    refine ⟨_, rfl, _, "str", t, rfl, ht, by decide, _, rfl, ?_⟩
    rcases str_cases ht with ⟨z, rfl, rfl⟩ | ⟨e1, e2⟩
    · have ls : z.length ≤ sizeLine := Nat.le_trans hv.len (by decide)
      refine iteF ⟨_, rfl, z, rfl, ls, _, _, rfl, rfl, _, rfl, ?_⟩
      by_cases h1 : 1 ≤ z.length
      · rw [decide_eq_true (by omega)]
        refine iteT ⟨_, _, rfl, rfl, _, rfl, ?_⟩
        by_cases h2 : z.length ≤ 12
        · rw [decide_eq_true (by omega)]
          refine iteF ?_
          refine ⟨_, rfl, _, rfl, fun D hD => ?_⟩
          refine lcP walk_str (fun i => V.bl (signB (z.cps.toList.getD i 0))) (Nat.lt_of_le_of_lt (show z.cps.size ≤ 12 from h2) (by decide)) hD (fun _ _ => trivial) ?_ ?_
          · rintro i y H1 H2 Q' hi sm ⟨rfl, c, hc, rfl⟩ hq
            have hcm : z.cps.toList.getD i 0 = c := by
              rw [← Array.getElem?_toList] at hc
              rw [List.getD_eq_getElem?_getD, hc]
              rfl
            rw [hcm] at hq
            have e1 : (⟨#[c]⟩ : Str).cps.toList = [c] := rfl
            have e2 : (("a" : Str).cps.toList) = [97] := by decide +kernel
            have e3 : (("z" : Str).cps.toList) = [122] := by decide +kernel
            refine ⟨rfl, _, rfl, _, _, rfl, rfl, _, rfl, ?_⟩
            rw [e1, e2, lt1]
            by_cases c1 : 97 ≤ c
            · rw [decide_eq_false (show ¬ c < 97 by omega)]
              refine iteT ⟨_, _, rfl, rfl, ?_⟩
              rw [e1, e3, lt1]
              have e : signB c = !decide (122 < c) := by
                unfold signB
                rw [decide_eq_true c1, Bool.true_and]
                by_cases c2 : c ≤ 122
                · rw [decide_eq_true c2, decide_eq_false (by omega)]; rfl
                · rw [decide_eq_false c2, decide_eq_true (by omega)]; rfl
              rw [e] at hq
              exact hq _ (Same.refl _)
            · rw [decide_eq_true (show c < 97 by omega)]
              have e : signB c = false := by
                unfold signB
                rw [decide_eq_false c1]; rfl
              rw [e] at hq
              exact iteF (hq _ (Same.refl _))
          · intro H' sm hd
            refine ⟨D, (List.range z.cps.size).map fun i => signB (z.cps.toList.getD i 0), rfl, .inl (.inl (by rw [hd, List.map_map]; rfl)), ?_⟩
            have e := range_all signB 0 z.cps.toList
            rw [Array.length_toList] at e
            rw [e]
            have e4 : wordV (.str z) = z.cps.toList.all signB := by
              show wordB z = _
              unfold wordB
              rw [decide_eq_true h1, decide_eq_true h2]
              rfl
            rw [e4] at q
            exact q _ sm
        · rw [decide_eq_false (by omega)]
          have e4 : wordV (.str z) = false := by
            show wordB z = _
            unfold wordB
            rw [decide_eq_false h2]
            simp
          rw [e4] at q
          exact iteT (q _ (Same.refl _))
      · rw [decide_eq_false (by omega)]
        have e4 : wordV (.str z) = false := by
          show wordB z = _
          unfold wordB
          rw [decide_eq_false h1]
          rfl
        rw [e4] at q
        exact iteF ⟨_, rfl, iteT (q _ (Same.refl _))⟩
    · rw [e2]
      rw [e1] at q
      exact iteT (q _ (Same.refl _))
end
end L2.My
end
section
set_option Elab.async false
set_option linter.all false
set_option maxRecDepth 100000
set_option maxHeartbeats 4000000
/-! The judges' verdicts, read off the heap; the small ones. -/
namespace L2.My
open PySem PySem.Spec PyProof.Rows
abbrev sNumb : Stmt := top 10
abbrev sAsc : Stmt := top 11
abbrev sPair : Stmt := top 14
abbrev sMemb : Stmt := top 15
theorem lt_un {k : Nat} {A : Around} (r : Room k A) : A.units < cLine := by have := r.un; omega
theorem u2 {k : Nat} {A : Around} (h : Room k A) : A.units + 2 < cLine := by have := h.un; omega
theorem u64 {k : Nat} {A : Around} (h : Room k A) : A.units + 64 < cLine := by have := h.un; omega
def iV : V → Nat
  | .int i => i.toNat
  | _ => 0
def intV : V → Int
  | .int i => i
  | _ => 0
def numV : V → Bool
  | .int i => decide (0 ≤ i)
  | _ => false
def notNon : V → Bool
  | .non => false
  | _ => true
def pairB (H : Hp) (v : V) : Bool := match tupOf H v with
  | some [_, _] => true
  | _ => false
def memB (H : Hp) (v : V) : Bool := match tupOf H v with
  | some [x, y] => wordV x && numV y
  | _ => false
def nameV (H : Hp) (v : V) : Str := match tupOf H v with
  | some (.str z :: _) => z
  | _ => ""
def leavesB (H : Hp) (h : Nat) (v : V) : Bool := match tupOf H v with
  | some xs => decide (xs.length = 2 ^ h) && ((xs.filter notNon).all (memB H) && decide (((xs.filter notNon).map (nameV H)).Nodup))
  | none => false
def nodeB (H : Hp) (h : Nat) (v : V) : Bool := match tupOf H v with
  | some [x, y] => belowV ((h : Int) + 1) x && belowV ((2 : Int) ^ (h - iV x)) y
  | _ => false
/-- the two numbers of a node -/
def nodI (H : Hp) (v : V) : List Int := match tupOf H v with
  | some xs => xs.map intV
  | none => []
def levV (H : Hp) (v : V) : Nat := match tupOf H v with
  | some (x :: _) => iV x
  | _ => 0
def atV (H : Hp) (v : V) : Nat := match tupOf H v with
  | some (_ :: y :: _) => iV y
  | _ => 0
def ascBy {α : Type} (lt : α → α → Bool) : List α → Bool
  | [] => true
  | [_] => true
  | f :: g :: r => lt f g && ascBy lt (g :: r)
def ltI (i j : Int) : Bool := decide (i < j)
def asideB (H : Hp) (ls : List V) (lev at' : Nat) (v : V) : Bool := match tupOf H v with
  | some xs => xs.all (belowV (ls.length : Int)) && (ascBy ltI (xs.map intV) && xs.all fun x => decide (iV x / 2 ^ lev = at') && notNon (ls.getD (iV x) .non))
  | none => false
def keptB (H : Hp) (h : Nat) (ls : List V) (v : V) : Bool := match tupOf H v with
  | some [n, l, a] => nodeB H h n && (decide (levV H n ≠ 0) && (numV l && asideB H ls (levV H n) (atV H n) a))
  | _ => false
/-- a row's node -/
def rowI (H : Hp) (v : V) : List Int := match tupOf H v with
  | some (n :: _) => nodI H n
  | _ => []
def nodesB (H : Hp) (h : Nat) (ls : List V) (v : V) : Bool := match tupOf H v with
  | some xs => xs.all (keptB H h ls) && ascBy HT.lexLt (xs.map (rowI H))
  | none => false
theorem ascBy_all {α : Type} (lt : α → α → Bool) (d : α) : ∀ (fs : List α), ((List.range (fs.length - 1)).map fun i => lt (fs.getD i d) (fs.getD (i + 1) d)).all id = ascBy lt fs
  | [] => rfl
  | [_] => rfl
  | f :: g :: r => by
    have ih := ascBy_all lt d (g :: r)
    have e : (f :: g :: r).length - 1 = ((g :: r).length - 1) + 1 := by simp
    rw [e, List.range_succ_eq_map, List.map_cons, List.all_cons, List.map_map]
    show (lt f g && _) = (lt f g && ascBy lt (g :: r))
    rw [← ih]
    rfl
theorem pairB_at {H : Hp} {v : V} {xs : List V} (h : tupOf H v = some xs) : pairB H v = decide (V.int (xs.length : Nat) = V.int 2) := by
  unfold pairB
  rw [h, dec_int]
  match xs with
  | [] => rfl
  | [_] => rfl
  | [_, _] => rfl
  | _ :: _ :: _ :: r =>
    show false = _
    symm
    rw [beq_eq_false_iff_ne]
    simp only [List.length_cons]
    omega
theorem pairB_no {H : Hp} {v : V} (h : tupOf H v = none) : pairB H v = false := by unfold pairB; rw [h]
theorem pair_of {b : Addr} {H : Hp} {v : V} (t : Thg b H v) (h : pairB H v = true) : ∃ a x y, v = .ref a ∧ H a = some (.tup [x, y]) ∧ tupOf H v = some [x, y] ∧ Thg b H x ∧ Thg b H y := by
  cases e : tupOf H v with
  | none => rw [pairB_no e] at h; cases h
  | some xs =>
    obtain ⟨a, rfl, ha, _, q⟩ := tupOf_sub t e
    rw [pairB_at e, dec_int, beq_iff_eq] at h
    match xs, q, ha, h with
    | [x, y], q, ha, _ => exact ⟨a, x, y, rfl, ha, rfl, q x (by simp), q y (by simp)⟩
    | [], _, _, h => simp at h
    | [_], _, _, h => simp at h
    | _ :: _ :: _ :: r, _, _, h => simp only [List.length_cons] at h; omega
theorem memB_no {H : Hp} {v : V} (h : pairB H v = false) : memB H v = false := by
  unfold pairB at h
  unfold memB
  split <;> simp_all
theorem memB_at {H : Hp} {v x y : V} (h : tupOf H v = some [x, y]) : memB H v = (wordV x && numV y) := by unfold memB; rw [h]
def spNumb : Sp := fun vs H Q _ => ∃ (b : Addr) (v : V), vs = [v] ∧ Thg b H v ∧ Q (.bl (numV v)) H
def spPair : Sp := fun vs H Q _ => ∃ (b : Addr) (v : V), vs = [v] ∧ Thg b H v ∧ Q (.bl (pairB H v)) H
def spMemb : Sp := fun vs H Q _ => ∃ (b : Addr) (v : V), vs = [v] ∧ Thg b H v ∧ ∀ H', Same H H' → Q (.bl (memB H v)) H'
def spAsc : Sp := fun vs H Q _ => ∃ (a : Addr) (xs : List V), vs = [.ref a] ∧ (H a = some (.lst xs) ∨ H a = some (.tup xs)) ∧ xs.length ≤ 5000 ∧
  ((∃ ns : List Int, xs = ns.map V.int ∧ ∀ H', Same H H' → Q (.bl (ascBy ltI ns)) H') ∨
   ∃ (as : List Addr) (ps : List (List Int)), xs = as.map .ref ∧ Paired (fun a p => H a = some (.tup (p.map V.int))) as ps ∧ ∀ H', Same H H' → Q (.bl (ascBy HT.lexLt ps)) H')
def rLtIT (K : PySem.W.Frag) : R2 := fun x y H Q => rI0 (fun i j => .bl (decide (i < j))) x y H Q ∨ rLtT K x y H Q
theorem op_ltIT {X : Cx} (hu : X.A.units < cLine) : OpR X (compareOp .Lt) (rLtIT X.K) := by
  intro pins s σ H x y v u Q I rx ry h
  rcases h with h | h
  · exact op_lt pins s σ H x y v u Q I rx ry h
  · exact op_ltT hu pins s σ H x y v u Q I rx ry h
theorem num_cases {H : Hp} {v : V} {t : String} (h : ThT H v t) : (∃ i, v = .int i ∧ t = "int") ∨ (∃ c, v = .bl c ∧ t = "bool") ∨ (numV v = false ∧ instT t "int" = false) := by
  cases h with
  | int i => exact .inl ⟨i, rfl, rfl⟩
  | bl c => exact .inr (.inl ⟨c, rfl, rfl⟩)
  | _ => exact .inr (.inr ⟨rfl, by decide⟩)
section
variable {P : Program} {w : World} {K : PySem.W.Frag} {mg : Str → Option Value} {base : Heap}
theorem scNumb : FnScope ["thing"] ["thing"] (defScope sNumb) := ⟨rfl, rfl, rfl, by decide +kernel, rfl, by decide +kernel, by decide +kernel⟩
theorem ok_numb {f : Addr} {fd : FuncData} {k : Nat} (F : Fun K "is_number" "is_number" sNumb f fd) (T : Tx mg) : FnOk P w K mg base CX0 (k + 1) f fd ["thing"] spNumb := by
  refine F.ok scNumb (fun vs H Q E h => ?_) (fun cdv A outer s H vs Q E hr h => ?_)
  · obtain ⟨b, v, rfl, _⟩ := h
    rfl
  · obtain ⟨b, v, rfl, hv, q⟩ := h
    obtain ⟨t, ht⟩ := hv.th
    refine ⟨_, (pss_one (ps_ret (pe_and (pe_callB call_isTh (by rfl) T.isi (by decide +kernel) (pa_cons (pv 0) (pa_cons (pe_bltn (v := .ty "int") (u := .type "int") (by rfl) T.int_ (by decide +kernel) rfl) pa_nil))) (pe_and (pe_not (pe_callB call_isTh (by rfl) T.isi (by decide +kernel) (pa_cons (pv 0) (pa_cons (pe_bltn (v := .ty "bool") (u := .type "bool") (by rfl) T.bool_ (by decide +kernel) rfl) pa_nil)))) (pe_one (pe_cmpR op_ge (pv 0) pe_int (nomark _))))))), ?_⟩
    refine ⟨_, rfl, _, "int", t, rfl, ht, by decide, _, rfl, ?_⟩
    rcases num_cases ht with ⟨i, rfl, rfl⟩ | ⟨c, rfl, rfl⟩ | ⟨e1, e2⟩
    · exact iteT ⟨_, rfl, _, "bool", _, rfl, .int i, by decide, _, rfl, _, rfl, iteT ⟨_, rfl, _, _, rfl, rfl, q⟩⟩
    · exact iteT ⟨_, rfl, _, "bool", _, rfl, .bl c, by decide, _, rfl, _, rfl, iteF q⟩
    · rw [e2]
      rw [e1] at q
      exact iteF q
theorem scPair : FnScope ["thing"] ["thing"] (defScope sPair) := ⟨rfl, rfl, rfl, by decide +kernel, rfl, by decide +kernel, by decide +kernel⟩
theorem ok_pair {f : Addr} {fd : FuncData} {k : Nat} (F : Fun K "is_pair" "is_pair" sPair f fd) (T : Tx mg) : FnOk P w K mg base CX0 (k + 1) f fd ["thing"] spPair := by
  refine F.ok scPair (fun vs H Q E h => ?_) (fun cdv A outer s H vs Q E hr h => ?_)
  · obtain ⟨b, v, rfl, _⟩ := h
    rfl
  · obtain ⟨b, v, rfl, hv, q⟩ := h
    obtain ⟨t, ht⟩ := hv.th
    refine ⟨_, (pss_one (ps_ret (pe_and (pe_callB call_isTh (by rfl) T.isi (by decide +kernel) (pa_cons (pv 0) (pa_cons (pe_bltn (v := .ty "tuple") (u := .type "tuple") (by rfl) T.tuple_ (by decide +kernel) rfl) pa_nil))) (pe_one (pe_cmpR op_eq (pe_callB call_len_seq (by rfl) T.len_ PySem.boot_len (pa_cons (pv 0) pa_nil)) pe_int (nomark _)))))), ?_⟩
    refine ⟨_, rfl, _, "tuple", t, rfl, ht, by decide, _, rfl, ?_⟩
    rcases tup_cases ht with ⟨a, xs, rfl, hx, e, rfl⟩ | ⟨e1, e2⟩
    · refine iteT ⟨_, rfl, a, xs, rfl, .inr (.of hx), rfl, ?_⟩
      rw [pairB_at e] at q
      exact q
    · rw [e2]
      rw [pairB_no e1] at q
      exact iteF q
theorem scMemb : FnScope ["thing"] ["thing"] (defScope sMemb) := ⟨rfl, rfl, rfl, by decide +kernel, rfl, by decide +kernel, by decide +kernel⟩
theorem ok_memb {f : Addr} {fd : FuncData} {k : Nat} (F : Fun K "is_member" "is_member" sMemb f fd) (T : Tx mg) (cP : Cal P w K mg base (k + 1) "is_pair" ["thing"] spPair) (cW : Cal P w K mg base (k + 1) "is_word" ["thing"] spWord) (cN : Cal P w K mg base (k + 1) "is_number" ["thing"] spNumb) : FnOk P w K mg base CX0 (k + 2) f fd ["thing"] spMemb := by
  refine F.ok scMemb (fun vs H Q E h => ?_) (fun cdv A outer s H vs Q E hr h => ?_)
  · obtain ⟨b, v, rfl, _⟩ := h
    rfl
  · obtain ⟨b, v, rfl, hv, q⟩ := h
    refine ⟨_, (pss_one (ps_ret (pe_and (pe_c cP hr (by omega) (by rfl) (pa_cons (pv 0) pa_nil)) (pe_and (pe_c cW hr (by omega) (by rfl) (pa_cons (pe_ix ix_tup (pv 0) pe_int (fun _ _ => rfl)) pa_nil)) (pe_one (pe_c cN hr (by omega) (by rfl) (pa_cons (pe_ix ix_tup (pv 0) pe_int (fun _ _ => rfl)) pa_nil))))))), ?_⟩
    refine ⟨_, rfl, b, v, rfl, hv, _, rfl, ?_⟩
    cases hp : pairB H v with
    | false =>
      rw [memB_no hp] at q
      exact iteF (q _ (Same.refl _))
    | true =>
      obtain ⟨a, x, y, rfl, ha, e, tx, ty⟩ := pair_of hv hp
      rw [memB_at e] at q
      refine iteT ⟨_, rfl, a, _, _, x, rfl, rfl, .of ha, atI_nat (j := 0) rfl, b, x, rfl, tx, fun H1 s1 => ⟨_, rfl, ?_⟩⟩
      cases hw : wordV x with
      | false =>
        rw [hw] at q
        exact iteF (q _ s1)
      | true =>
        rw [hw] at q
        exact iteT ⟨_, rfl, a, _, _, y, rfl, rfl, .of (s1 _ _ ha), atI_nat (j := 1) rfl, b, y, rfl, ty.same s1, q _ s1⟩
theorem scAsc : FnScope ["things", "at"] ["things"] (defScope sAsc) := ⟨rfl, rfl, rfl, by decide +kernel, rfl, by decide +kernel, by decide +kernel⟩
theorem ok_asc {f : Addr} {fd : FuncData} {k : Nat} (F : Fun K "ascends" "ascends" sAsc f fd) (T : Tx mg) : FnOk P w K mg base CX0 (k + 1) f fd ["things"] spAsc := by
  refine F.ok scAsc (fun vs H Q E h => ?_) (fun cdv A outer s H vs Q E hr h => ?_)
  · obtain ⟨a, xs, rfl, _⟩ := h
    rfl
  · refine ⟨_, (pss_one (ps_ret (pe_callB (cr_all rfl) (by rfl) T.all_ (by decide +kernel) (pa_cons (pe_lc (own := [("at", 1)]) (g := gName 1) (te := tOp (rLtIT K) (tOp (rIx K) (tVar 0) (tVar 1)) (tOp (rIx K) (tVar 0) (tOp (rI0 fun i j => .int (i + j)) (tVar 1) (tC (.int 1))))) rfl scAsc.nd (pi_range1 (by rfl) T.range_ (pa_cons (pe_op op_sub (pe_callB call_len_seq (by rfl) T.len_ PySem.boot_len (pa_cons (pv 0) pa_nil)) pe_int) pa_nil)) (blkOk_by (N := ["things", "at"]) (sc := defScope sAsc) (by decide +kernel)) (fun _ _ _ _ _ => pg_name (i := 1) scAsc.nd rfl (Or.inl rfl)) (fun _ _ _ _ _ => pts_nil) (fun _ _ _ _ _ => (pe_cmpR (op_ltIT (lt_un hr)) (pe_ix ix_seq (pv 0) (pv 1) (fun _ _ => rfl)) (pe_ix ix_seq (pv 0) (pe_op op_add (pv 1) pe_int) (fun _ _ => rfl)) (nomark _)))) pa_nil)))), ?_⟩
    obtain ⟨a, xs, rfl, ha, hl, h⟩ := h
    have ix : ∀ {G : Hp} {j : Int} {v : V} {Q : VK}, Same H G → atI xs j = some v → Q v G → rIx K (.ref a) (.int j) G Q := fun {G j v Q} sm e q => by
      rcases ha with ha | ha
      · exact .inl ⟨a, xs, j, v, rfl, rfl, .of (sm _ _ ha), e, q⟩
      · exact .inr (.inl ⟨a, xs, j, v, rfl, rfl, .of (sm _ _ ha), e, q⟩)
    have sq : SqL K H a xs ∨ SqT K H a xs := ha.elim (fun h => .inl (.of h)) fun h => .inr (.of h)
    refine ⟨_, rfl, a, _, rfl, sq, _, _, rfl, rfl, ?_⟩
    refine ⟨_, rfl, by omega, by omega, fun D hD => ?_⟩
    have hn : ((xs.length : Nat) - 1 : Int).toNat = xs.length - 1 := by omega
    rw [hn]
    rcases h with ⟨ns, rfl, q⟩ | ⟨as, ps, rfl, hp, q⟩
    · rw [List.length_map] at *
      refine lcP (walk_range (lo := 0)) (fun i => V.bl (ltI (ns.getD i 0) (ns.getD (i + 1) 0))) (Nat.lt_of_le_of_lt (show ns.length - 1 ≤ 5000 by omega) (by decide)) hD (fun _ _ => trivial) ?_ ?_
      · rintro i y H3 H4 Q' hi sm ⟨rfl, rfl⟩ hq
        have e1 : ns[i]? = some ns[i] := List.getElem?_eq_getElem (by omega)
        have e2 : ns[i + 1]? = some ns[i + 1] := List.getElem?_eq_getElem (by omega)
        refine ⟨rfl, _, rfl, _, rfl, ix sm (v := .int ns[i]) (by rw [Int.zero_add]; exact atI_nat (by rw [List.getElem?_map, e1]; rfl)) ?_⟩
        refine ⟨_, rfl, _, rfl, _, _, rfl, rfl, ix sm (v := .int ns[i + 1]) (by rw [Int.zero_add]; exact atI_nat (j := i + 1) (by rw [List.getElem?_map, e2]; rfl)) (.inl ⟨_, _, rfl, rfl, ?_⟩)⟩
        have z1 : ns.getD i 0 = ns[i] := by rw [List.getD_eq_getElem?_getD, e1]; rfl
        have z2 : ns.getD (i + 1) 0 = ns[i + 1] := by rw [List.getD_eq_getElem?_getD, e2]; rfl
        rw [z1, z2] at hq
        exact hq _ (Same.refl _)
      · intro H' sm hd
        refine ⟨D, (List.range (ns.length - 1)).map fun i => ltI (ns.getD i 0) (ns.getD (i + 1) 0), rfl, .inl (.inl (by rw [hd, List.map_map]; rfl)), ?_⟩
        rw [ascBy_all]
        exact q _ sm
    · have le := Paired.len hp
      rw [List.length_map] at hl
      have hl2 : ps.length ≤ 5000 := by omega
      rw [List.length_map, le]
      refine lcP (walk_range (lo := 0)) (fun i => V.bl (HT.lexLt (ps.getD i []) (ps.getD (i + 1) []))) (Nat.lt_of_le_of_lt (show ps.length - 1 ≤ 5000 by omega) (by decide)) hD (fun _ _ => trivial) ?_ ?_
      · rintro i y H3 H4 Q' hi sm ⟨rfl, rfl⟩ hq
        have e1 : as[i]? = some (as[i]'(by omega)) := List.getElem?_eq_getElem (by omega)
        have e2 : as[i + 1]? = some (as[i + 1]'(by omega)) := List.getElem?_eq_getElem (by omega)
        obtain ⟨f1, g1, r1⟩ := Paired.at' hp e1
        obtain ⟨f2, g2, r2⟩ := Paired.at' hp e2
        refine ⟨rfl, _, rfl, _, rfl, ix sm (v := .ref (as[i]'(by omega))) (by rw [Int.zero_add]; exact atI_nat (by rw [List.getElem?_map, e1]; rfl)) ?_⟩
        refine ⟨_, rfl, _, rfl, _, _, rfl, rfl, ix sm (v := .ref (as[i + 1]'(by omega))) (by rw [Int.zero_add]; exact atI_nat (j := i + 1) (by rw [List.getElem?_map, e2]; rfl)) (.inr ⟨_, _, f1, f2, rfl, rfl, .of (sm _ _ r1), .of (sm _ _ r2), ?_⟩)⟩
        have z1 : ps.getD i [] = f1 := by rw [List.getD_eq_getElem?_getD, g1]; rfl
        have z2 : ps.getD (i + 1) [] = f2 := by rw [List.getD_eq_getElem?_getD, g2]; rfl
        rw [z1, z2] at hq
        exact hq _ (Same.refl _)
      · intro H' sm hd
        refine ⟨D, (List.range (ps.length - 1)).map fun i => HT.lexLt (ps.getD i []) (ps.getD (i + 1) []), rfl, .inl (.inl (by rw [hd, List.map_map]; rfl)), ?_⟩
        rw [ascBy_all]
        exact q _ sm
end
end L2.My
end
section
set_option Elab.async false
set_option linter.all false
set_option maxRecDepth 100000
set_option maxHeartbeats 4000000
/-! is_leaves, is_node. -/
namespace L2.My
open PySem PySem.Spec PyProof.Rows
abbrev sLeav : Stmt := top 16
abbrev sNode : Stmt := top 17
abbrev rNotN : R2 := fun x y H Q => y = .non ∧ Q (.bl (!decide (x = .non))) H
abbrev rLenS (K : PySem.W.Frag) : List V → Hp → VK → Prop := fun xs H Q => ∃ p ys, xs = [V.ref p] ∧ (SqL K H p ys ∨ SqT K H p ys) ∧ Q (V.int ys.length) H
section
variable {J : It} {n : Nat} {G : Hp → Prop} {Y : Nat → Hp → V → Hp → Prop}
theorem dcK_it (w : Walk J n G Y) {g : TG} {tt : TT} {tk tv : TE} {vs : List Nat} {σ : St} {H1 : Hp} {D : Addr} {Qd : Hp → Prop} (Pv : Nat → Hp → Prop) (h0 : Pv 0 (upd H1 D (.dK []))) (hG : ∀ i H, i ≤ n → Pv i H → G H)
    (hs : ∀ i x H H', i < n → Pv i H → Y i H x H' → g x (wipe σ vs) H' fun σ2 H2 => wipe σ2 vs = wipe σ vs ∧ tt σ2 H2 fun b H3 =>
      if b = true then tk σ2 H3 fun y H4 => tv σ2 H4 fun z H5 => ∃ kvs k, y = kV k ∧ H5 D = some (.dK kvs) ∧ kvs.length < sizeLine ∧ Pv (i + 1) (upd H5 D (.dK (putK kvs k z))) else Pv (i + 1) H3)
    (hd : ∀ H, Pv n H → Qd H) : ∃ W : Nat → Nat → Hp → Prop, (∃ m, W 0 m (upd H1 D (.dK []))) ∧ ∀ i m H, W i m H →
      (J.stop i H ∧ Qd H) ∨ (J.go i H ∧ ∃ Nx : Hp → Prop, (∀ H', Nx H' → ∃ m', m' < m ∧ W (i + 1) m' H') ∧ ∀ x H', J.yld i H x H' → g x (wipe σ vs) H' fun σ2 H2 => wipe σ2 vs = wipe σ vs ∧ tt σ2 H2 fun b H3 =>
        if b = true then tk σ2 H3 fun y H4 => tv σ2 H4 fun z H5 => ∃ kvs k, y = kV k ∧ H5 D = some (.dK kvs) ∧ kvs.length < sizeLine ∧ Nx (upd H5 D (.dK (putK kvs k z))) else Nx H3) := by
  refine ⟨fun i m H => i + m = n ∧ Pv i H, ⟨n, by omega, h0⟩, fun i m H ⟨e, h⟩ => ?_⟩
  have gi := hG i H (by omega) h
  by_cases hi : i < n
  · exact .inr ⟨w.goes i H hi gi, fun H' => Pv (i + 1) H', fun H' h' => ⟨m - 1, by omega, by omega, h'⟩, fun x H' y => hs i x H H' hi h (w.yields i H x H' hi gi y)⟩
  · obtain rfl : i = n := by omega
    exact .inl ⟨w.stops H gi, hd H h⟩
end
open Classical in
theorem keys_put {kvs : List (Key × V)} {k : Key} {v : V} : (putK kvs k v).map (·.1) = if k ∈ kvs.map (·.1) then kvs.map (·.1) else kvs.map (·.1) ++ [k] := by
  unfold putK
  by_cases h : k ∈ kvs.map (·.1)
  · rw [if_pos h]
    have e : (kvs.any fun kv => decide (kv.1 = k)) = true := by
      obtain ⟨p, hp, rfl⟩ := List.mem_map.mp h
      exact List.any_eq_true.mpr ⟨p, hp, decide_eq_true rfl⟩
    rw [if_pos e, List.map_map]
    apply List.map_congr_left
    intro p _
    show (if p.1 = k then (p.1, v) else p).1 = p.1
    split <;> rfl
  · rw [if_neg h]
    have e : ¬ (kvs.any fun kv => decide (kv.1 = k)) = true := fun z => by
      obtain ⟨p, hp, e⟩ := List.any_eq_true.mp z
      exact h (List.mem_map.mpr ⟨p, hp, of_decide_eq_true e⟩)
    rw [if_neg e, List.map_append]
    rfl
theorem nonN (v : V) : (!decide (v = V.non)) = notNon v := by cases v <;> simp [notNon]
theorem mem_name {H : Hp} {v : V} (h : memB H v = true) : ∃ y, tupOf H v = some [.str (nameV H v), y] := by
  unfold memB at h
  cases e : tupOf H v with
  | none => rw [e] at h; cases h
  | some xs =>
    rw [e] at h
    match xs, h with
    | [], h => cases h
    | [_], h => cases h
    | _ :: _ :: _ :: _, h => cases h
    | [x, y], h =>
      cases x with
      | str z =>
        refine ⟨y, ?_⟩
        have en : nameV H v = z := by unfold nameV; rw [e]
        rw [en]
      | _ =>
        have h' : (wordV _ && numV y) = true := h
        rw [show wordV _ = false from rfl] at h'
        cases h'
theorem leavesB_no {H : Hp} {h : Nat} {v : V} (e : tupOf H v = none) : leavesB H h v = false := by unfold leavesB; rw [e]
theorem leavesB_at {H : Hp} {h : Nat} {v : V} {xs : List V} (e : tupOf H v = some xs) : leavesB H h v = (decide (xs.length = 2 ^ h) && ((xs.filter notNon).all (memB H) && decide (((xs.filter notNon).map (nameV H)).Nodup))) := by unfold leavesB; rw [e]
def spLeav : Sp := fun vs H Q _ => ∃ (b : Addr) (h : Nat) (v : V), vs = [.int (h : Int), v] ∧ h ≤ 8 ∧ Thg b H v ∧ ∀ H', Same H H' → Q (.bl (leavesB H h v)) H'
def spNode : Sp := fun vs H Q _ => ∃ (b : Addr) (h : Nat) (v : V), vs = [.int (h : Int), v] ∧ h ≤ 8 ∧ Thg b H v ∧ Q (.bl (nodeB H h v)) H
theorem filt_snoc {α : Type} (p : α → Bool) {xs : List α} {i : Nat} {x : α} (h : xs[i]? = some x) : (xs.take (i + 1)).filter p = (xs.take i).filter p ++ if p x = true then [x] else [] := by
  rw [take_snoc h, List.filter_append, List.filter_cons, List.filter_nil]
theorem nodup_snoc {α : Type} {l : List α} {z : α} : (l ++ [z]).Nodup ↔ l.Nodup ∧ z ∉ l := by
  rw [List.nodup_append]
  constructor
  · rintro ⟨h1, _, h3⟩
    exact ⟨h1, fun h => h3 z h z List.mem_cons_self rfl⟩
  · rintro ⟨h1, h2⟩
    exact ⟨h1, by simp, fun a ha b hb e => h2 (by rw [List.mem_singleton] at hb; rw [← hb, ← e]; exact ha)⟩
section
variable {P : Program} {w : World} {K : PySem.W.Frag} {mg : Str → Option Value} {base : Heap}
theorem scLeav : FnScope ["height", "thing", "having", "leaf"] ["height", "thing"] (defScope sLeav) := ⟨rfl, rfl, rfl, by decide +kernel, rfl, by decide +kernel, by decide +kernel⟩
theorem ok_leav {f : Addr} {fd : FuncData} {k : Nat} (F : Fun K "is_leaves" "is_leaves" sLeav f fd) (T : Tx mg) (cM : Cal P w K mg base (k + 2) "is_member" ["thing"] spMemb) : FnOk P w K mg base CX0 (k + 3) f fd ["height", "thing"] spLeav := by
  refine F.ok scLeav (fun vs H Q E h => ?_) (fun cdv A outer s H vs Q E hr h => ?_)
  · obtain ⟨b, h, v, rfl, _⟩ := h
    rfl
  · obtain ⟨b, h, v, rfl, hh, hv, q⟩ := h
    obtain ⟨t, ht⟩ := hv.th
    refine ⟨_, (pss_cons (ps_if (pt_or (pt_not (pt_val (pe_callB call_isTh (by rfl) T.isi (by decide +kernel) (pa_cons (pv 1) (pa_cons (pe_bltn (v := .ty "tuple") (u := .type "tuple") (by rfl) T.tuple_ (by decide +kernel) rfl) pa_nil))))) (pw_or1 (pt_cmpR op_ne (pe_callB call_len_seq (by rfl) T.len_ PySem.boot_len (pa_cons (pv 1) pa_nil)) (pe_op op_shl pe_int (pv 0)) (nomark _)))) (pss_one (ps_ret pe_bl)) pss_nil) (pss_cons (ps_setLc (own := [("leaf", 3)]) (i := 2) (g := gName 3) (te := tVar 3) (tt := tTest (tOp rNotN (tVar 3) (tC .non))) rfl scLeav.nd rfl rfl (sw_true rfl rfl rfl (by decide +kernel)) (pi_tup (pv 1)) (blkOk_by (N := ["height", "thing", "having", "leaf"]) (sc := defScope sLeav) (by decide +kernel)) (fun _ _ _ _ _ => pg_name (i := 3) scLeav.nd rfl (Or.inl rfl)) (fun _ _ _ _ _ => (pts_one (pt_cmpR op_notN (pv 3) pe_non (nomark _)))) (fun _ _ _ _ _ => (pv 3))) (pss_one (ps_ret (pe_and (pe_callB (cr_all rfl) (by rfl) T.all_ (by decide +kernel) (pa_cons (pe_lc (own := [("leaf", 3)]) (g := gName 3) (te := tCall spMemb [] E0 (tCons (tVar 3) tNil)) rfl scLeav.nd (pi_list (pv 2)) (blkOk_by (N := ["height", "thing", "having", "leaf"]) (sc := defScope sLeav) (by decide +kernel)) (fun _ _ _ _ _ => pg_name (i := 3) scLeav.nd rfl (Or.inl rfl)) (fun _ _ _ _ _ => pts_nil) (fun _ _ _ _ _ => (pe_c cM hr (by omega) (by rfl) (pa_cons (pv 3) pa_nil)))) pa_nil)) (pe_one (pe_cmpR op_eq (pe_callB call_lenD (by rfl) T.len_ PySem.boot_len (pa_cons (pe_dc (own := [("leaf", 3)]) (g := gName 3) (tk := tOp (rIxT K) (tVar 3) (tC (.int 0))) (tv := tC (.bl true)) rfl scLeav.nd (pi_list (pv 2)) (blkOk_by (N := ["height", "thing", "having", "leaf"]) (sc := defScope sLeav) (by decide +kernel)) (fun _ _ _ _ _ => (pg_name (i := 3) scLeav.nd rfl (Or.inl rfl))) (fun _ _ _ _ _ => pts_nil) (fun _ _ _ _ _ => (pe_ix ix_tup (pv 3) pe_int (fun _ _ => rfl))) (fun _ _ _ _ _ => pe_bl)) pa_nil)) (pe_callB call_len_seq (by rfl) T.len_ PySem.boot_len (pa_cons (pv 2) pa_nil)) (nomark _)))))))), ?_⟩
    refine ⟨_, rfl, _, "tuple", t, rfl, ht, by decide, _, rfl, ?_⟩
    rcases tup_cases ht with ⟨a, xs, rfl, hx, e, rfl⟩ | ⟨e1, e2⟩
    rotate_left
    · rw [e2]
      rw [leavesB_no e1] at q
      exact iteT (q _ (Same.refl _))
    obtain ⟨hl, hxs⟩ := hv.sub hx
    rw [leavesB_at e] at q
    refine iteF ⟨_, rfl, a, xs, rfl, .inr (.of hx), _, rfl, _, _, rfl, rfl, ⟨by omega, by omega, by decide⟩, rfl, _, rfl, ?_⟩
    have e2 : (1 * 2 ^ (h : Int).toNat : Int) = ((2 ^ h : Nat) : Int) := by
      rw [Int.one_mul, Int.toNat_natCast]
      push_cast
      rfl
    have hd : decide (V.int (xs.length : Nat) = V.int (1 * 2 ^ (h : Int).toNat)) = decide (xs.length = 2 ^ h) := by
      rw [dec_int, e2, Bool.eq_iff_iff, beq_iff_eq, decide_eq_true_iff]
      omega
    dsimp only
    rw [hd]
    by_cases hlen : xs.length = 2 ^ h
    rotate_left
    · rw [decide_eq_false hlen, Bool.false_and] at q
      rw [decide_eq_false hlen]
      exact iteT (q _ (Same.refl _))
    rw [decide_eq_true hlen, Bool.true_and] at q
    rw [decide_eq_true hlen]
    refine iteF ?_
    refine ⟨_, rfl, a, rfl, ⟨_, .of hx⟩, fun D nD => ?_⟩
    have hb8 : xs.length ≤ 256 := by
      rw [hlen]
      exact Nat.le_trans (Nat.pow_le_pow_right (by decide) hh) (by decide)
    refine lc_it (walk_tup (xs := xs)) (fun i G => Same H G ∧ G D = some (.lst ((xs.take i).filter notNon))) ⟨same_upd nD, by rw [upd_same]; rfl⟩ (fun i G _ hG => .of (hG.1 _ _ hx)) ?_ ?_
    · rintro i y G G' hi ⟨sm, hD⟩ ⟨rfl, hy⟩
      refine ⟨rfl, _, rfl, rfl, _, rfl, ?_⟩
      rw [nonN, filt_snoc notNon hy]
      cases hn : notNon y with
      | false => exact iteF ⟨sm, by rw [if_neg Bool.false_ne_true, List.append_nil]; exact hD⟩
      | true =>
        refine iteT ⟨_, rfl, _, hD, Nat.lt_of_le_of_lt (show ((xs.take i).filter notNon).length ≤ 300 from Nat.le_trans (List.length_filter_le _ _) (by rw [List.length_take]; omega)) (by decide), same_put sm nD, by rw [if_pos rfl]; exact upd_same⟩
    rintro G ⟨sm, hD⟩
    rw [List.take_length] at hD
    generalize hvs : xs.filter notNon = vs at *
    have hm : ∀ x ∈ vs, Thg b H x := fun x hx2 => hxs x (by rw [← hvs] at hx2; exact (List.mem_filter.mp hx2).1)
    have hvl : vs.length ≤ 256 := by rw [← hvs]; exact Nat.le_trans (List.length_filter_le _ _) hb8
    refine ⟨_, rfl, D, rfl, ⟨_, SqL.of hD⟩, fun D2 nD2 => ?_⟩
    refine lcP (walk_list (xs := vs)) (fun i => V.bl (memB H (vs.getD i .non))) (Nat.lt_of_le_of_lt hvl (by decide)) nD2 (fun _ s => SqL.of (s _ _ hD)) ?_ ?_
    · rintro i y G3 G4 Q' hi s3 ⟨rfl, hy⟩ hq
      have eg : vs.getD i .non = y := by rw [List.getD_eq_getElem?_getD, hy]; rfl
      rw [eg] at hq
      have ty := (hm y (List.mem_of_getElem? hy)).same (sm.trans s3)
      refine ⟨rfl, _, rfl, b, y, rfl, ty, fun G5 s5 => ?_⟩
      have em : memB G4 y = memB H y := by
        unfold memB
        rw [tupOf_bl (hm y (List.mem_of_getElem? hy)) (.same (sm.trans s3))]
      rw [em]
      exact hq _ s5
    intro G3 s3 hd3
    refine ⟨D2, (List.range vs.length).map fun i => memB H (vs.getD i .non), rfl, .inl (.inl (by rw [hd3, List.map_map]; rfl)), ?_⟩
    rw [range_all]
    have s03 := sm.trans s3
    have hD3 := s3 _ _ hD
    refine ⟨_, rfl, ?_⟩
    cases hall : vs.all (memB H) with
    | false =>
      rw [hall, Bool.false_and] at q
      exact iteF (q _ s03)
    | true =>
      rw [hall, Bool.true_and] at q
      refine iteT ⟨_, rfl, D, rfl, ⟨_, SqL.of hD3⟩, fun D4 nD4 => ?_⟩
      refine dcK_it (walk_list (xs := vs)) (fun i G4 => Same G3 G4 ∧ ∃ kvs : List (Key × V), G4 D4 = some (.dK kvs) ∧ (∀ z, .inr z ∈ kvs.map (·.1) ↔ z ∈ (vs.take i).map (nameV H)) ∧ kvs.length ≤ i ∧ (kvs.length = i ↔ ((vs.take i).map (nameV H)).Nodup)) ⟨same_upd nD4, [], upd_same, by simp, Nat.le_refl _, by simp⟩ (fun i G4 _ h4 => SqL.of (h4.1 _ _ hD3)) ?_ ?_
      · rintro i y G4 G5 hi ⟨s4, kvs, h1, h2, h3, h4⟩ ⟨rfl, hy⟩
        have my := List.mem_of_getElem? hy
        obtain ⟨u, eu⟩ := mem_name (List.all_eq_true.mp hall y my)
        obtain ⟨ay, rfl, hay, _, _⟩ := tupOf_sub (hm y my) eu
        have hay4 := s4 _ _ (s03 _ _ hay)
        refine ⟨rfl, _, rfl, ay, _, _, _, rfl, rfl, .of hay4, atI_nat (j := 0) rfl, kvs, .inr (nameV H (.ref ay)), rfl, h1, Nat.lt_of_le_of_lt (show kvs.length ≤ 256 by omega) (by decide), same_put s4 nD4, _, upd_same, fun z => ?_, ?_, ?_⟩
        · rw [keys_put, take_snoc hy, List.map_append, List.mem_append]
          split
          · rename_i hk
            rw [h2]
            constructor
            · exact .inl
            · rintro (c | c)
              · exact c
              · rw [List.map_cons, List.map_nil, List.mem_singleton] at c
                rw [c]
                exact (h2 _).mp hk
          · rw [List.mem_append, h2, List.mem_singleton, List.map_cons, List.map_nil, List.mem_singleton]
            constructor
            · rintro (c | c)
              · exact .inl c
              · exact .inr (Sum.inr.inj c)
            · rintro (c | c)
              · exact .inl c
              · exact .inr (by rw [c])
        · have := length_putK kvs (.inr (nameV H (.ref ay))) (.bl true)
          omega
        · have hlk : (putK kvs (.inr (nameV H (.ref ay))) (V.bl true)).length = ((putK kvs (.inr (nameV H (.ref ay))) (V.bl true)).map (·.1)).length := by rw [List.length_map]
          rw [hlk, keys_put, take_snoc hy, List.map_append, List.map_cons, List.map_nil, nodup_snoc, ← h4, ← h2]
          split
          · rename_i hk
            rw [List.length_map]
            constructor
            · intro c; omega
            · intro c; exact absurd hk c.2
          · rename_i hk
            rw [List.length_append, List.length_map, List.length_singleton]
            constructor
            · intro c; exact ⟨by omega, hk⟩
            · intro c; omega
      · rintro G4 ⟨s4, kvs, h1, h2, h3, h4⟩
        refine ⟨D4, kvs, rfl, h1, _, rfl, D, vs, rfl, .inl (.of (s4 _ _ hD3)), rfl, ?_⟩
        rw [List.take_length] at h4
        have ed : decide (V.int (kvs.length : Nat) = V.int (vs.length : Nat)) = decide ((vs.map (nameV H)).Nodup) := by
          rw [dec_int]
          by_cases c : (vs.map (nameV H)).Nodup
          · rw [decide_eq_true c, beq_iff_eq, h4.mpr c]
          · rw [decide_eq_false c, beq_eq_false_iff_ne]
            exact fun z => c (h4.mp (by omega))
        rw [ed]
        exact q _ (s03.trans s4)
theorem scNode : FnScope ["height", "thing"] ["height", "thing"] (defScope sNode) := ⟨rfl, rfl, rfl, by decide +kernel, rfl, by decide +kernel, by decide +kernel⟩
theorem ok_node {f : Addr} {fd : FuncData} {k : Nat} (F : Fun K "is_node" "is_node" sNode f fd) (T : Tx mg) (cP : Cal P w K mg base (k + 1) "is_pair" ["thing"] spPair) (cB : Cal P w K mg base (k + 1) "is_below" ["bound", "thing"] spBelow) : FnOk P w K mg base CX0 (k + 2) f fd ["height", "thing"] spNode := by
  refine F.ok scNode (fun vs H Q E h => ?_) (fun cdv A outer s H vs Q E hr h => ?_)
  · obtain ⟨b, h, v, rfl, _⟩ := h
    rfl
  · obtain ⟨b, h, v, rfl, hh, hv, q⟩ := h
    refine ⟨_, (pss_one (ps_ret (pe_and (pe_c cP hr (by omega) (by rfl) (pa_cons (pv 1) pa_nil)) (pe_and (pe_c cB hr (by omega) (by rfl) (pa_cons (pe_op op_add (pv 0) pe_int) (pa_cons (pe_ix ix_tup (pv 1) pe_int (fun _ _ => rfl)) pa_nil))) (pe_one (pe_c cB hr (by omega) (by rfl) (pa_cons (pe_op op_shl pe_int (pe_op op_sub (pv 0) (pe_ix ix_tup (pv 1) pe_int (fun _ _ => rfl)))) (pa_cons (pe_ix ix_tup (pv 1) pe_int (fun _ _ => rfl)) pa_nil)))))))), ?_⟩
    refine ⟨_, rfl, b, v, rfl, hv, _, rfl, ?_⟩
    cases hp : pairB H v with
    | false =>
      have e : nodeB H h v = false := by
        unfold pairB at hp
        unfold nodeB
        split <;> simp_all
      rw [e] at q
      exact iteF q
    | true =>
      obtain ⟨a, x, y, rfl, ha, e, tx, ty⟩ := pair_of hv hp
      have en : nodeB H h (.ref a) = (belowV ((h : Int) + 1) x && belowV ((2 : Int) ^ (h - iV x)) y) := by unfold nodeB; rw [e]
      rw [en] at q
      refine iteT ⟨_, rfl, _, _, rfl, rfl, _, rfl, a, _, _, x, rfl, rfl, .of ha, atI_nat (j := 0) rfl, b, _, x, rfl, tx, _, rfl, ?_⟩
      cases hx : belowV ((h : Int) + 1) x with
      | false =>
        rw [hx] at q
        exact iteF q
      | true =>
        rw [hx] at q
        cases x with
        | int i =>
          have hi := of_decide_eq_true (show decide (0 ≤ i ∧ i < (h : Int) + 1) = true from hx)
          refine iteT ⟨_, rfl, _, rfl, a, _, _, .int i, rfl, rfl, .of ha, atI_nat (j := 0) rfl, _, _, rfl, rfl, _, _, rfl, rfl, ⟨by omega, by omega, by decide⟩, _, rfl, a, _, _, y, rfl, rfl, .of ha, atI_nat (j := 1) rfl, b, _, y, rfl, ty, ?_⟩
          have e3 : (1 * 2 ^ ((h : Int) - i).toNat : Int) = (2 : Int) ^ (h - iV (.int i)) := by
            rw [Int.one_mul]
            congr 1
            show ((h : Int) - i).toNat = h - i.toNat
            omega
          rw [e3]
          exact q
        | _ => cases hx
end
end L2.My
end
section
set_option Elab.async false
set_option linter.all false
set_option maxRecDepth 100000
set_option maxHeartbeats 4000000
/-! is_kept_node, is_nodes. -/
namespace L2.My
open PySem PySem.Spec PyProof.Rows
abbrev sKept : Stmt := top 18
abbrev sNods : Stmt := top 19
abbrev rShr : R2 := rI (fun _ j => 0 ≤ j) fun i j => .int (i / 2 ^ j.toNat)
theorem keptB_no {H : Hp} {h : Nat} {ls : List V} {v : V} (e : tupOf H v = none) : keptB H h ls v = false := by unfold keptB; rw [e]
theorem keptB_len {H : Hp} {h : Nat} {ls : List V} {v : V} {xs : List V} (e : tupOf H v = some xs) (n : xs.length ≠ 3) : keptB H h ls v = false := by
  unfold keptB
  rw [e]
  match xs, n with
  | [], _ => rfl
  | [_], _ => rfl
  | [_, _], _ => rfl
  | [_, _, _], n => exact absurd rfl n
  | _ :: _ :: _ :: _ :: _, _ => rfl
theorem keptB_at {H : Hp} {h : Nat} {ls : List V} {v n l a : V} (e : tupOf H v = some [n, l, a]) : keptB H h ls v = (nodeB H h n && (decide (levV H n ≠ 0) && (numV l && asideB H ls (levV H n) (atV H n) a))) := by unfold keptB; rw [e]
theorem asideB_no {H : Hp} {ls : List V} {p q : Nat} {v : V} (e : tupOf H v = none) : asideB H ls p q v = false := by unfold asideB; rw [e]
theorem asideB_at {H : Hp} {ls : List V} {p q : Nat} {v : V} {xs : List V} (e : tupOf H v = some xs) : asideB H ls p q v = (xs.all (belowV (ls.length : Int)) && (ascBy ltI (xs.map intV) && xs.all fun x => decide (iV x / 2 ^ p = q) && notNon (ls.getD (iV x) .non))) := by unfold asideB; rw [e]
theorem below_int {n : Int} {v : V} (h : belowV n v = true) : v = .int (iV v : Nat) ∧ ((iV v : Nat) : Int) < n ∧ intV v = (iV v : Nat) := by
  cases v with
  | int i =>
    have hi := of_decide_eq_true (show decide (0 ≤ i ∧ i < n) = true from h)
    have e : ((iV (.int i) : Nat) : Int) = i := by
      show ((i.toNat : Nat) : Int) = i
      omega
    rw [e]
    exact ⟨rfl, hi.2, rfl⟩
  | _ => cases h
theorem ints_all {n : Int} : ∀ {xs : List V}, xs.all (belowV n) = true → xs = (xs.map intV).map V.int
  | [], _ => rfl
  | x :: r, h => by
    rw [List.all_cons, Bool.and_eq_true] at h
    obtain ⟨h1, _, h3⟩ := below_int h.1
    rw [List.map_cons, List.map_cons, ← ints_all h.2, h3, ← h1]
/-- what passed is_node -/
theorem node_of {b : Addr} {H : Hp} {h : Nat} {v : V} (t : Thg b H v) (e : nodeB H h v = true) : ∃ a, v = .ref a ∧ H a = some (.tup [.int (levV H v : Nat), .int (atV H v : Nat)]) ∧ tupOf H v = some [.int (levV H v : Nat), .int (atV H v : Nat)] ∧ levV H v ≤ h ∧ ((atV H v : Nat) : Int) < (2 : Int) ^ (h - levV H v) ∧ nodI H v = [((levV H v : Nat) : Int), ((atV H v : Nat) : Int)] := by
  have hp : pairB H v = true := by
    unfold nodeB at e
    unfold pairB
    split at e
    · rfl
    · cases e
  obtain ⟨a, x, y, rfl, ha, ep, tx, ty⟩ := pair_of t hp
  have en : nodeB H h (.ref a) = (belowV ((h : Int) + 1) x && belowV ((2 : Int) ^ (h - iV x)) y) := by unfold nodeB; rw [ep]
  have e1 : levV H (.ref a) = iV x := by unfold levV; rw [ep]
  have e2 : atV H (.ref a) = iV y := by unfold atV; rw [ep]
  have e3 : nodI H (.ref a) = [intV x, intV y] := by unfold nodI; rw [ep]; rfl
  rw [en, Bool.and_eq_true] at e
  obtain ⟨a1, a2, a3⟩ := below_int e.1
  obtain ⟨b1, b2, b3⟩ := below_int e.2
  rw [e1, e2, e3, a3, b3, ← a1, ← b1]
  exact ⟨a, rfl, ha, ep, by omega, b2, rfl⟩
def spKept : Sp := fun vs H Q _ => ∃ (b : Addr) (h : Nat) (la : Addr) (ls : List V) (v : V), vs = [.int (h : Int), .ref la, v] ∧ h ≤ 8 ∧ H la = some (.tup ls) ∧ Thg b H v ∧ ∀ H', Same H H' → Q (.bl (keptB H h ls v)) H'
def spNods : Sp := fun vs H Q _ => ∃ (b : Addr) (h : Nat) (la : Addr) (ls : List V) (v : V), vs = [.int (h : Int), .ref la, v] ∧ h ≤ 8 ∧ H la = some (.tup ls) ∧ Thg b H v ∧ ∀ H', Same H H' → Q (.bl (nodesB H h ls v)) H'
section
variable {P : Program} {w : World} {K : PySem.W.Frag} {mg : Str → Option Value} {base : Heap}
abbrev nKp : List Str := ["height", "leaves", "thing", "node", "lock", "aside", "leaf"]
theorem scKp : FnScope nKp ["height", "leaves", "thing"] (defScope sKept) := ⟨rfl, rfl, rfl, by decide +kernel, rfl, by decide +kernel, by decide +kernel⟩
theorem ok_kept {f : Addr} {fd : FuncData} {k : Nat} (F : Fun K "is_kept_node" "is_kept_node" sKept f fd) (T : Tx mg) (cN : Cal P w K mg base (k + 2) "is_node" ["height", "thing"] spNode) (cU : Cal P w K mg base (k + 2) "is_number" ["thing"] spNumb) (cB : Cal P w K mg base (k + 2) "is_below" ["bound", "thing"] spBelow) (cA : Cal P w K mg base (k + 2) "ascends" ["things"] spAsc) : FnOk P w K mg base CX0 (k + 3) f fd ["height", "leaves", "thing"] spKept := by
  refine F.ok scKp (fun vs H Q E h => ?_) (fun cdv A outer s H vs Q E hr h => ?_)
  · obtain ⟨b, h, la, ls, v, rfl, _⟩ := h
    rfl
  · obtain ⟨b, h, la, ls, v, rfl, hh, hla, hv, q⟩ := h
    obtain ⟨t, ht⟩ := hv.th
    refine ⟨_, (pss_cons (ps_if (pt_or (pt_not (pt_val (pe_callB call_isTh (by rfl) T.isi (by decide +kernel) (pa_cons (pv 2) (pa_cons (pe_bltn (v := .ty "tuple") (u := .type "tuple") (by rfl) T.tuple_ (by decide +kernel) rfl) pa_nil))))) (pw_or1 (pt_cmpR op_ne (pe_callB call_len_seq (by rfl) T.len_ PySem.boot_len (pa_cons (pv 2) pa_nil)) pe_int (nomark _)))) (pss_one (ps_ret pe_bl)) pss_nil) (pss_cons (ps_asg (pv 2) (pg_tup rfl (pgs_cons (pg_name (i := 3) scKp.nd rfl (Or.inr rfl)) (pgs_cons (pg_name (i := 4) scKp.nd rfl (Or.inl rfl)) (pgs_cons (pg_name (i := 5) scKp.nd rfl (Or.inl rfl)) pgs_nil))))) (pss_cons (ps_if (pt_or (pt_not (pt_val (pe_c cN hr (by omega) (by rfl) (pa_cons (pv 0) (pa_cons (pv 3) pa_nil))))) (pw_or (pt_cmpR op_eq (pe_ix ix_tup (pv 3) pe_int (fun _ _ => rfl)) pe_int (nomark _)) (pw_or (pt_not (pt_val (pe_c cU hr (by omega) (by rfl) (pa_cons (pv 4) pa_nil)))) (pw_or1 (pt_not (pt_val (pe_callB call_isTh (by rfl) T.isi (by decide +kernel) (pa_cons (pv 5) (pa_cons (pe_bltn (v := .ty "tuple") (u := .type "tuple") (by rfl) T.tuple_ (by decide +kernel) rfl) pa_nil))))))))) (pss_one (ps_ret pe_bl)) pss_nil) (pss_cons (ps_if (pt_or (pt_not (pt_val (pe_callB (cr_all rfl) (by rfl) T.all_ (by decide +kernel) (pa_cons (pe_lc (own := [("leaf", 6)]) (g := gName 6) (te := tCall spBelow [] E0 (tCons (tCB (rLenS K) (tCons (tVar 1) tNil)) (tCons (tVar 6) tNil))) rfl scKp.nd (pi_tup (pv 5)) (blkOk_by (N := nKp) (sc := defScope sKept) (by decide +kernel)) (fun _ _ _ _ _ => pg_name (i := 6) scKp.nd rfl (Or.inl rfl)) (fun _ _ _ _ _ => pts_nil) (fun _ _ _ _ _ => (pe_c cB hr (by omega) (by rfl) (pa_cons (pe_callB call_len_seq (by rfl) T.len_ PySem.boot_len (pa_cons (pv 1) pa_nil)) (pa_cons (pv 6) pa_nil))))) pa_nil)))) (pw_or1 (pt_not (pt_val (pe_c cA hr (by omega) (by rfl) (pa_cons (pv 5) pa_nil)))))) (pss_one (ps_ret pe_bl)) pss_nil) (pss_one (ps_ret (pe_callB (cr_all rfl) (by rfl) T.all_ (by decide +kernel) (pa_cons (pe_lc (own := [("leaf", 6)]) (g := gName 6) (te := tAndV (tOp rEq (tOp rShr (tVar 6) (tOp (rIxT K) (tVar 3) (tC (.int 0)))) (tOp (rIxT K) (tVar 3) (tC (.int 1)))) (tOp rNotN (tOp (rIxT K) (tVar 1) (tVar 6)) (tC .non))) rfl scKp.nd (pi_tup (pv 5)) (blkOk_by (N := nKp) (sc := defScope sKept) (by decide +kernel)) (fun _ _ _ _ _ => pg_name (i := 6) scKp.nd rfl (Or.inl rfl)) (fun _ _ _ _ _ => pts_nil) (fun _ _ _ _ _ => (pe_and (pe_cmpR op_eq (pe_op op_shr (pv 6) (pe_ix ix_tup (pv 3) pe_int (fun _ _ => rfl))) (pe_ix ix_tup (pv 3) pe_int (fun _ _ => rfl)) (nomark _)) (pe_one (pe_cmpR op_notN (pe_ix ix_tup (pv 1) (pv 6) (fun _ _ => rfl)) pe_non (nomark _)))))) pa_nil)))))))), ?_⟩
    refine ⟨_, rfl, _, "tuple", t, rfl, ht, by decide, _, rfl, ?_⟩
    rcases tup_cases ht with ⟨a, xs, rfl, hx, e, rfl⟩ | ⟨e1, e2⟩
    rotate_left
    · rw [e2]
      rw [keptB_no e1] at q
      exact iteT (q _ (Same.refl _))
    obtain ⟨hl, hxs⟩ := hv.sub hx
    refine iteF ⟨_, rfl, a, xs, rfl, .inr (.of hx), rfl, _, rfl, ?_⟩
    have hd : decide (V.int (xs.length : Nat) = V.int 3) = decide (xs.length = 3) := by
      rw [dec_int, Bool.eq_iff_iff, beq_iff_eq, decide_eq_true_iff]
      omega
    rw [hd]
    by_cases h3 : xs.length = 3
    rotate_left
    · rw [decide_eq_false h3]
      rw [keptB_len e h3] at q
      exact iteT (q _ (Same.refl _))
    rw [decide_eq_true h3]
    obtain ⟨n, l, c, rfl⟩ : ∃ n l c, xs = [n, l, c] := by
      match xs, h3 with
      | [n, l, c], _ => exact ⟨n, l, c, rfl⟩
    rw [keptB_at e] at q
    have tn := hxs n (by simp)
    have tl := hxs l (by simp)
    have tc := hxs c (by simp)
    refine iteF ⟨_, rfl, a, _, rfl, .of hx, rfl, _, _, rfl, _, _, rfl, _, _, rfl, rfl, ?_⟩
    refine ⟨_, rfl, _, rfl, b, h, n, rfl, hh, tn, _, rfl, ?_⟩
    cases hn : nodeB H h n with
    | false =>
      rw [hn] at q
      exact iteT (q _ (Same.refl _))
    | true =>
    rw [hn, Bool.true_and] at q
    obtain ⟨na, rfl, hna, ena, hlev, hat, _⟩ := node_of tn hn
    generalize levV H (.ref na) = lev at *
    generalize atV H (.ref na) = at' at *
    refine iteF ⟨_, rfl, na, _, _, .int (lev : Nat), rfl, rfl, .of hna, atI_nat (j := 0) rfl, rfl, _, rfl, ?_⟩
    have hd0 : decide (V.int (lev : Nat) = V.int 0) = !decide (lev ≠ 0) := by
      rw [dec_int]
      by_cases z : lev = 0
      · rw [z]; rfl
      · rw [decide_eq_true z, Bool.not_true, beq_eq_false_iff_ne]
        omega
    rw [hd0]
    cases hz : decide (lev ≠ 0) with
    | false =>
      rw [hz] at q
      exact iteT (q _ (Same.refl _))
    | true =>
    rw [hz, Bool.true_and] at q
    refine iteF ⟨_, rfl, b, l, rfl, tl, _, rfl, ?_⟩
    cases hu : numV l with
    | false =>
      rw [hu] at q
      exact iteT (q _ (Same.refl _))
    | true =>
    rw [hu, Bool.true_and] at q
    obtain ⟨t2, ht2⟩ := tc.th
    refine iteF ⟨_, rfl, _, "tuple", t2, rfl, ht2, by decide, _, rfl, ?_⟩
    rcases tup_cases ht2 with ⟨c, ys, rfl, hc, ec, rfl⟩ | ⟨e1, e2⟩
    rotate_left
    · rw [e2]
      rw [asideB_no e1] at q
      exact iteT (q _ (Same.refl _))
    rw [asideB_at ec] at q
    obtain ⟨hyl, hys⟩ := tc.sub hc
    refine iteF ⟨_, rfl, c, rfl, ⟨_, .of hc⟩, fun D nD => ?_⟩
    refine lcP walk_tup (fun i => V.bl (belowV (ls.length : Int) (ys.getD i .non))) (Nat.lt_of_le_of_lt hyl (by decide)) nD (fun _ sm => .of (sm _ _ hc)) ?_ ?_
    · rintro i y G3 G4 Q' hi sm ⟨rfl, hy⟩ hq
      have eg : ys.getD i .non = y := by rw [List.getD_eq_getElem?_getD, hy]; rfl
      rw [eg] at hq
      exact ⟨rfl, _, rfl, la, _, rfl, .inr (.of (sm _ _ hla)), _, rfl, b, _, y, rfl, (hys y (List.mem_of_getElem? hy)).same sm, hq _ (Same.refl _)⟩
    intro G sm hd1
    refine ⟨D, (List.range ys.length).map fun i => belowV (ls.length : Int) (ys.getD i .non), rfl, .inl (.inl (by rw [hd1, List.map_map]; rfl)), _, rfl, ?_⟩
    rw [range_all]
    cases hb : ys.all (belowV (ls.length : Int)) with
    | false =>
      rw [hb] at q
      exact iteT (q _ sm)
    | true =>
    rw [hb, Bool.true_and] at q
    have hcG := sm _ _ hc
    refine iteF ⟨_, rfl, c, ys, rfl, .inr hcG, hyl, .inl ⟨_, ints_all hb, fun G2 s2 => ⟨_, rfl, ?_⟩⟩⟩
    cases hasc : ascBy ltI (ys.map intV) with
    | false =>
      rw [hasc] at q
      exact iteT (q _ (sm.trans s2))
    | true =>
    rw [hasc, Bool.true_and] at q
    have s02 := sm.trans s2
    refine iteF ⟨_, rfl, c, rfl, ⟨_, .of (s02 _ _ hc)⟩, fun D2 nD2 => ?_⟩
    refine lcP walk_tup (fun i => V.bl ((fun x => decide (iV x / 2 ^ lev = at') && notNon (ls.getD (iV x) .non)) (ys.getD i .non))) (Nat.lt_of_le_of_lt hyl (by decide)) nD2 (fun _ s3 => .of (s3 _ _ (s02 _ _ hc))) ?_ ?_
    · rintro i y G3 G4 Q' hi s3 ⟨rfl, hy⟩ hq
      have eg : ys.getD i .non = y := by rw [List.getD_eq_getElem?_getD, hy]; rfl
      rw [eg] at hq
      have s03 := s02.trans s3
      obtain ⟨y1, y2, y3⟩ := below_int (List.all_eq_true.mp hb y (List.mem_of_getElem? hy))
      have hna3 := s03 _ _ hna
      have hq2 : ∀ H4, Same G4 H4 → Q' (V.bl (decide (iV y / 2 ^ lev = at') && notNon (ls.getD (iV y) .non))) H4 := hq
      clear hq
      generalize hj : iV y = j at *
      refine ⟨rfl, ?_⟩
      rw [y1]
      refine ⟨_, rfl, _, rfl, na, _, _, .int (lev : Nat), rfl, rfl, .of hna3, atI_nat (j := 0) rfl, _, _, rfl, rfl, by omega, _, rfl, na, _, _, .int (at' : Nat), rfl, rfl, .of hna3, atI_nat (j := 1) rfl, rfl, _, rfl, ?_⟩
      have e5 : decide (V.int (((j : Nat) : Int) / 2 ^ ((lev : Nat) : Int).toNat) = V.int (at' : Nat)) = decide (j / 2 ^ lev = at') := by
        have e6 : (((j : Nat) : Int) / 2 ^ ((lev : Nat) : Int).toNat) = ((j / 2 ^ lev : Nat) : Int) := by
          rw [Int.toNat_natCast]
          push_cast
          rfl
        rw [e6, dec_int, Bool.eq_iff_iff, beq_iff_eq, decide_eq_true_iff]
        omega
      rw [e5]
      cases h5 : decide (j / 2 ^ lev = at') with
      | false =>
        rw [h5] at hq2
        exact iteF (hq2 _ (Same.refl _))
      | true =>
        rw [h5, Bool.true_and] at hq2
        have hjl : j < ls.length := by omega
        have ej : ls[j]? = some ls[j] := List.getElem?_eq_getElem hjl
        have eg2 : ls.getD j .non = ls[j] := by rw [List.getD_eq_getElem?_getD, ej]; rfl
        rw [eg2] at hq2
        refine iteT ⟨_, rfl, _, rfl, la, _, _, ls[j], rfl, rfl, .of (s03 _ _ hla), atI_nat ej, rfl, ?_⟩
        rw [nonN]
        exact hq2 _ (Same.refl _)
    intro G3 s3 hd3
    refine ⟨D2, (List.range ys.length).map fun i => (fun x => decide (iV x / 2 ^ lev = at') && notNon (ls.getD (iV x) .non)) (ys.getD i .non), rfl, .inl (.inl (by rw [hd3, List.map_map]; rfl)), ?_⟩
    rw [range_all (fun x => decide (iV x / 2 ^ lev = at') && notNon (ls.getD (iV x) .non))]
    exact q _ (s02.trans s3)
theorem nodesB_no {H : Hp} {h : Nat} {ls : List V} {v : V} (e : tupOf H v = none) : nodesB H h ls v = false := by unfold nodesB; rw [e]
theorem nodesB_at {H : Hp} {h : Nat} {ls : List V} {v : V} {xs : List V} (e : tupOf H v = some xs) : nodesB H h ls v = (xs.all (keptB H h ls) && ascBy HT.lexLt (xs.map (rowI H))) := by unfold nodesB; rw [e]
theorem levV_bl {b : Addr} {H H' : Hp} {v : V} (t : Thg b H v) (s : BL [b] H H') : levV H' v = levV H v := by unfold levV; rw [tupOf_bl t s]
theorem atV_bl {b : Addr} {H H' : Hp} {v : V} (t : Thg b H v) (s : BL [b] H H') : atV H' v = atV H v := by unfold atV; rw [tupOf_bl t s]
theorem nodeB_bl {b : Addr} {H H' : Hp} {h : Nat} {v : V} (t : Thg b H v) (s : BL [b] H H') : nodeB H' h v = nodeB H h v := by unfold nodeB; rw [tupOf_bl t s]
theorem nodI_bl {b : Addr} {H H' : Hp} {v : V} (t : Thg b H v) (s : BL [b] H H') : nodI H' v = nodI H v := by unfold nodI; rw [tupOf_bl t s]
theorem asideB_bl {b : Addr} {H H' : Hp} {ls : List V} {p q : Nat} {v : V} (t : Thg b H v) (s : BL [b] H H') : asideB H' ls p q v = asideB H ls p q v := by unfold asideB; rw [tupOf_bl t s]
theorem keptB_bl {b : Addr} {H H' : Hp} {h : Nat} {ls : List V} {v : V} (t : Thg b H v) (s : BL [b] H H') : keptB H' h ls v = keptB H h ls v := by
  cases e : tupOf H v with
  | none => rw [keptB_no e, keptB_no ((tupOf_bl t s).trans e)]
  | some xs =>
    obtain ⟨a, _, _, _, q⟩ := tupOf_sub t e
    by_cases h3 : xs.length = 3
    · obtain ⟨n, l, c, rfl⟩ : ∃ n l c, xs = [n, l, c] := by
        match xs, h3 with
        | [n, l, c], _ => exact ⟨n, l, c, rfl⟩
      have tn := q n (by simp)
      rw [keptB_at e, keptB_at ((tupOf_bl t s).trans e), nodeB_bl tn s, levV_bl tn s, atV_bl tn s, asideB_bl (q c (by simp)) s]
    · rw [keptB_len e h3, keptB_len ((tupOf_bl t s).trans e) h3]
theorem rowI_bl {b : Addr} {H H' : Hp} {v : V} (t : Thg b H v) (s : BL [b] H H') : rowI H' v = rowI H v := by
  unfold rowI
  rw [tupOf_bl t s]
  cases e : tupOf H v with
  | none => rfl
  | some xs =>
    obtain ⟨a, _, _, _, q⟩ := tupOf_sub t e
    match xs, q with
    | [], _ => rfl
    | x :: r, q => exact nodI_bl (q x (by simp)) s
/-- a row that passed -/
theorem kept_of {b : Addr} {H : Hp} {h : Nat} {ls : List V} {v : V} (t : Thg b H v) (e : keptB H h ls v = true) : ∃ a na l c, v = .ref a ∧ H a = some (.tup [.ref na, l, c]) ∧ tupOf H v = some [.ref na, l, c] ∧ nodeB H h (.ref na) = true ∧ levV H (.ref na) ≠ 0 ∧ numV l = true ∧ asideB H ls (levV H (.ref na)) (atV H (.ref na)) c = true ∧ Thg b H (.ref na) ∧ Thg b H l ∧ Thg b H c ∧ rowI H v = nodI H (.ref na) := by
  cases et : tupOf H v with
  | none => rw [keptB_no et] at e; cases e
  | some xs =>
    by_cases h3 : xs.length = 3
    rotate_left
    · rw [keptB_len et h3] at e; cases e
    obtain ⟨n, l, c, rfl⟩ : ∃ n l c, xs = [n, l, c] := by
      match xs, h3 with
      | [n, l, c], _ => exact ⟨n, l, c, rfl⟩
    obtain ⟨a, rfl, ha, _, q⟩ := tupOf_sub t et
    rw [keptB_at et, Bool.and_eq_true, Bool.and_eq_true, Bool.and_eq_true] at e
    obtain ⟨e1, e2, e3, e4⟩ := e
    have tn := q n (by simp)
    obtain ⟨na, rfl, hna, ena, _⟩ := node_of tn e1
    refine ⟨a, na, l, c, rfl, ha, rfl, e1, of_decide_eq_true e2, e3, e4, tn, q l (by simp), q c (by simp), ?_⟩
    unfold rowI
    rw [et]
theorem scNd : FnScope ["height", "leaves", "thing", "row"] ["height", "leaves", "thing"] (defScope sNods) := ⟨rfl, rfl, rfl, by decide +kernel, rfl, by decide +kernel, by decide +kernel⟩
theorem ok_nods {f : Addr} {fd : FuncData} {k : Nat} (F : Fun K "is_nodes" "is_nodes" sNods f fd) (T : Tx mg) (cK : Cal P w K mg base (k + 3) "is_kept_node" ["height", "leaves", "thing"] spKept) (cA : Cal P w K mg base (k + 3) "ascends" ["things"] spAsc) : FnOk P w K mg base CX0 (k + 4) f fd ["height", "leaves", "thing"] spNods := by
  refine F.ok scNd (fun vs H Q E h => ?_) (fun cdv A outer s H vs Q E hr h => ?_)
  · obtain ⟨b, h, la, ls, v, rfl, _⟩ := h
    rfl
  · obtain ⟨b, h, la, ls, v, rfl, hh, hla, hv, q⟩ := h
    obtain ⟨t, ht⟩ := hv.th
    refine ⟨_, (pss_cons (ps_if (pt_or (pt_not (pt_val (pe_callB call_isTh (by rfl) T.isi (by decide +kernel) (pa_cons (pv 2) (pa_cons (pe_bltn (v := .ty "tuple") (u := .type "tuple") (by rfl) T.tuple_ (by decide +kernel) rfl) pa_nil))))) (pw_or1 (pt_not (pt_val (pe_callB (cr_all rfl) (by rfl) T.all_ (by decide +kernel) (pa_cons (pe_lc (own := [("row", 3)]) (g := gName 3) (te := tCall spKept [] E0 (tCons (tVar 0) (tCons (tVar 1) (tCons (tVar 3) tNil)))) rfl scNd.nd (pi_tup (pv 2)) (blkOk_by (N := ["height", "leaves", "thing", "row"]) (sc := defScope sNods) (by decide +kernel)) (fun _ _ _ _ _ => pg_name (i := 3) scNd.nd rfl (Or.inl rfl)) (fun _ _ _ _ _ => pts_nil) (fun _ _ _ _ _ => (pe_c cK hr (by omega) (by rfl) (pa_cons (pv 0) (pa_cons (pv 1) (pa_cons (pv 3) pa_nil)))))) pa_nil)))))) (pss_one (ps_ret pe_bl)) pss_nil) (pss_one (ps_ret (pe_c cA hr (by omega) (by rfl) (pa_cons (pe_lc (own := [("row", 3)]) (g := gName 3) (te := tOp (rIxT K) (tVar 3) (tC (.int 0))) rfl scNd.nd (pi_tup (pv 2)) (blkOk_by (N := ["height", "leaves", "thing", "row"]) (sc := defScope sNods) (by decide +kernel)) (fun _ _ _ _ _ => pg_name (i := 3) scNd.nd rfl (Or.inl rfl)) (fun _ _ _ _ _ => pts_nil) (fun _ _ _ _ _ => (pe_ix ix_tup (pv 3) pe_int (fun _ _ => rfl)))) pa_nil))))), ?_⟩
    refine ⟨_, rfl, _, "tuple", t, rfl, ht, by decide, _, rfl, ?_⟩
    rcases tup_cases ht with ⟨a, xs, rfl, hx, e, rfl⟩ | ⟨e1, e2⟩
    rotate_left
    · rw [e2]
      rw [nodesB_no e1] at q
      exact iteT (q _ (Same.refl _))
    obtain ⟨hl, hxs⟩ := hv.sub hx
    rw [nodesB_at e] at q
    refine iteF ⟨_, rfl, a, rfl, ⟨_, .of hx⟩, fun D nD => ?_⟩
    refine lcP walk_tup (fun i => V.bl (keptB H h ls (xs.getD i .non))) (Nat.lt_of_le_of_lt hl (by decide)) nD (fun _ sm => .of (sm _ _ hx)) ?_ ?_
    · rintro i y G3 G4 Q' hi sm ⟨rfl, hy⟩ hq
      have eg : xs.getD i .non = y := by rw [List.getD_eq_getElem?_getD, hy]; rfl
      rw [eg] at hq
      have ty := hxs y (List.mem_of_getElem? hy)
      refine ⟨rfl, _, rfl, _, rfl, _, rfl, b, h, la, ls, y, rfl, hh, sm _ _ hla, ty.same sm, fun G5 s5 => ?_⟩
      rw [keptB_bl ty (.same sm)]
      exact hq _ s5
    intro G sm hd1
    refine ⟨D, (List.range xs.length).map fun i => keptB H h ls (xs.getD i .non), rfl, .inl (.inl (by rw [hd1, List.map_map]; rfl)), _, rfl, ?_⟩
    rw [range_all]
    cases hb : xs.all (keptB H h ls) with
    | false =>
      rw [hb] at q
      exact iteT (q _ sm)
    | true =>
    rw [hb, Bool.true_and] at q
    refine iteF ⟨_, rfl, a, rfl, ⟨_, .of (sm _ _ hx)⟩, fun D2 nD2 => ?_⟩
    have rw1 : ∀ x ∈ xs, ∃ (c na : Addr) (l d : V), x = V.ref c ∧ H c = some (.tup [.ref na, l, d]) ∧ H na = some (.tup ((rowI H x).map V.int)) := fun x hm => by
      obtain ⟨c, na, l, d, e1, e2, _, e4, _, _, _, e8, _, _, e9⟩ := kept_of (hxs x hm) (List.all_eq_true.mp hb x hm)
      obtain ⟨na', e10, e11, _, _, _, e12⟩ := node_of e8 e4
      cases e10
      rw [e9, e12]
      exact ⟨c, na, l, d, e1, e2, e11⟩
    have fst : ∃ as : List Addr, as.length = xs.length ∧ Paired (fun a p => H a = some (.tup (p.map V.int))) as (xs.map (rowI H)) ∧ ∀ (i : Nat) (x : V), xs[i]? = some x → ∃ (c na : Addr) (l d : V), x = V.ref c ∧ H c = some (.tup [.ref na, l, d]) ∧ as[i]? = some na := by
      clear hd1 hb q hx e hl hxs hv ht
      induction xs with
      | nil => exact ⟨[], rfl, .nil, by simp⟩
      | cons x r ih =>
        obtain ⟨as, h1, h2, h3⟩ := ih (fun y hy => rw1 y (List.mem_cons_of_mem _ hy))
        obtain ⟨c, na, l, d, e1, e2, e3⟩ := rw1 x List.mem_cons_self
        refine ⟨na :: as, by simp [h1], .cons e3 h2, fun i y hy => ?_⟩
        cases i with
        | zero =>
          rw [List.getElem?_cons_zero] at hy
          cases hy
          exact ⟨c, na, l, d, e1, e2, rfl⟩
        | succ i => rw [List.getElem?_cons_succ] at hy ⊢; exact h3 i y hy
    obtain ⟨as, hal, hap, hai⟩ := fst
    refine lcP walk_tup (fun i => (as.map V.ref).getD i .non) (Nat.lt_of_le_of_lt hl (by decide)) nD2 (fun _ s2 => .of (s2 _ _ (sm _ _ hx))) ?_ ?_
    · rintro i y G3 G4 Q' hi s2 ⟨rfl, hy⟩ hq
      obtain ⟨c, na, l, d, rfl, e2, e3⟩ := hai i y hy
      have eg : (as.map V.ref).getD i .non = .ref na := by rw [List.getD_eq_getElem?_getD, List.getElem?_map, e3]; rfl
      rw [eg] at hq
      exact ⟨rfl, _, rfl, c, _, _, .ref na, rfl, rfl, .of (s2 _ _ (sm _ _ e2)), atI_nat (j := 0) rfl, hq _ (Same.refl _)⟩
    intro G3 s3 hd3
    have el : (List.range xs.length).map (fun i => (as.map V.ref).getD i .non) = as.map V.ref := by
      rw [← hal, ← List.length_map (f := V.ref)]
      apply List.ext_getElem
      · simp
      · intro i h1 h2
        rw [List.getElem_map, List.getElem_range, List.getD_eq_getElem?_getD, List.getElem?_eq_getElem h2]; rfl
    rw [el] at hd3
    have s03 := sm.trans s3
    exact ⟨D2, _, rfl, .inl hd3, by rw [List.length_map, hal]; exact hl, .inr ⟨as, _, rfl, Paired.mapP hap fun _ _ z => s03 _ _ z, fun G4 s4 => q _ (s03.trans s4)⟩⟩
end
end L2.My
end
section
set_option Elab.async false
set_option linter.all false
set_option maxRecDepth 100000
set_option maxHeartbeats 4000000
/-! == and != of an instance whose class has its own ==. -/
namespace L2.My
open PySem PySem.Spec PyProof.Rows
section
variable {M : Model} {prog : Program} {w : World} {A : Around} {E : Value → Shared → Prop} {s : Shared} {K : PySem.W.Frag} {x C f L : Addr} {ox : Obj} {od : Option Obj} {b tb : Value} {h₀ : Heap} {m : Str → Option Value}
theorem ne_entry {Q : Fin → Shared → Prop} (hu : A.units < cLine) (X : K.In s.heap) (I : PySem.W.InstAt s.heap x ox C od) (hs : PySem.W.findIn K (.ref C) "__eq__" = some (some (.ref f))) (hf : PySem.W.isFn K (.ref f) = true)
    (h : wpAny (model prog w) A (call (.ref f) [.ref x, b]) (fun v s' => ∃ c, v = .bool c ∧ Q (.done (.ret (.bool (!c)))) s') E s) : wpAny (model prog w) A (Builtin.«object.__ne__» ⟨[.ref x, b], []⟩) Q E s := by
  unfold Builtin.«object.__ne__»
  repeat (first
    | with_reducible refine wpAny_cRoomFor hu ?_
    | (refine wpAny_bind (m := callSpecialIfBound? (.ref x) (Str.ofString "__eq__") [b])
        (PySem.W.ifBound_K X I hs hf (wpAny_mono h (fun r s' hr => by
          obtain ⟨c, rfl, hq⟩ := hr
          repeat (first | exact hq | exact wpAny_pure hq | exact wpAny_truthy_bool hq | (refine wpAny_bind (m := truthy (.bool _)) (wpAny_truthy_bool ?_)) | wp_step)) fun _ _ e => e)))
    | wp_step)
theorem ifBound_ne {args : List Value} {Q : Option Value → Shared → Prop} (X : K.In s.heap) (I : PySem.W.InstAt s.heap x ox C od) (hs : PySem.W.findIn K (.ref C) "__ne__" = some (some (.builtin "object.__ne__")))
    (h : wpAny M A (call (.builtin "object.__ne__") (.ref x :: args)) (fun v => Q (some v)) E s) : wpAny M A (callSpecialIfBound? (.ref x) "__ne__" args) Q E s := by
  simp only [callSpecialIfBound?, bindSpecialIfBound?]
  refine wpAny_holding (wpAny_bind (wpAny_bind (wpAny_bind (I.type.here ((PySem.W.looks_findIn X hs).here ?_)))))
  refine wpAny_bind (wpAny_askSetting (wpAny_ite ?_))
  have fin : wpAny M A (call (.builtin "object.__ne__") ([.ref x] ++ args) >>= fun v => pure (some v)) Q E s := wpAny_bind (wpAny_mono h (fun v s' h' => wpAny_pure h') fun _ _ h' => h')
  split
  · exact wpAny_bind (wpAny_of_eq (F.cmp_object.ne.bind _) (wpAny_pure (by exact fin)))
  · exact wpAny_tryCatch (wpAny_bind (wpAny_of_eq (F.cmp_object.ne.bind _) (wpAny_pure (by exact fin))))
theorem ne_K {Q : Value → Shared → Prop} (hu : A.units + 1 < cLine) (X : K.In s.heap) (I : PySem.W.InstAt s.heap x ox C od) (hb : PySem.W.Looks (model prog w) s.heap (typeOf b) tb) (hn : PySem.W.notFirst K C tb = true)
    (hs : PySem.W.findIn K (.ref C) "__eq__" = some (some (.ref f))) (hf : PySem.W.isFn K (.ref f) = true) (hne : PySem.W.findIn K (.ref C) "__ne__" = some (some (.builtin "object.__ne__"))) (hm : PySem.W.mroIn K C (.type "object") = some true)
    (h : wpAny (model prog w) A.in1 (call (.ref f) [.ref x, b]) (fun v s' => ∃ c, v = .bool c ∧ Q (.bool (!c)) s') E s) : wpAny (model prog w) A (richCompare .NotEq (.ref x) b) Q E s := by
  have one : wpAny (model prog w) A (tryCompare (.ref x) "__ne__" b) (fun r s' => ∃ v, r = some v ∧ Q v s') E s := by
    unfold tryCompare
    refine wpAny_bind (ifBound_ne X I hne (wpAny_call (codeAny_call_builtin F.cmp_object.ne.plain F.cmpEntry_ne (PySem.W.check_slot F.cmpKind_ne F.cmpSplit_ne (I.type.andThen (PySem.W.looks_mroIn X hm)) (F.cmpArgs_ne _ _)
      (ne_entry (A := A.in1) hu X I hs hf (wpAny_mono h (fun v s' hv => ?_) fun _ _ e => e))))))
    obtain ⟨c, rfl, hq⟩ := hv
    exact ⟨c, rfl, wpAny_pure ⟨_, rfl, hq⟩⟩
  unfold richCompare
  simp only [oneThing_ref]
  refine wpAny_holding (wpAny_bind (wpAny_cRoomFor (by omega) ?_))
  refine wpAny_bind (I.type.here (wpAny_bind (hb.here ?_)))
  split
  · rename_i q
    have e : PySem.W.subIn K tb (.ref C) = some false := by
      rcases Bool.or_eq_true_iff.mp hn with e | e
      · rw [beq_iff_eq.mp e] at q; simp at q
      · exact beq_iff_eq.mp e
    refine wpAny_bind ((PySem.W.looks_subIn X e).here ?_)
    simp only [Bool.false_eq_true, if_false]
    refine wpAny_bind (wpAny_mono one (fun r s' z => ?_) fun _ _ e => e)
    obtain ⟨v, rfl, hq⟩ := z
    exact wpAny_pure hq
  · refine wpAny_bind (wpAny_pure ?_)
    simp only [Bool.false_eq_true, if_false]
    refine wpAny_bind (wpAny_mono one (fun r s' z => ?_) fun _ _ e => e)
    obtain ⟨v, rfl, hq⟩ := z
    exact wpAny_pure hq
end
/-- the type of a value, as the right side of a comparison -/
def rOwnEq (K : PySem.W.Frag) (C : Addr) (sp : Sp) (neg : Bool) : R2 := fun x y H Q => ∃ a dx fs tb, x = .ref a ∧ H a = some (.ins C dx fs) ∧ TyX K H y tb ∧ PySem.W.notFirst K C tb = true ∧ sp [x, y] H (fun v H' => ∃ c, v = .bl c ∧ Q (.bl (if neg then !c else c)) H') E0
section
variable {X : Cx} {n : Nat} {CX : CXT} {C f : Addr} {fd : FuncData} {ps : List Str} {sp : Sp}
theorem looks_of {pins : List (Addr × Obj)} {σ : St} {H : Hp} {s : Shared} {y : V} {u tb : Value} (I : Inv X pins σ H s) (ry : RelV y u) (t : TyX X.K H y tb) : PySem.W.Looks (model X.prog X.w) s.heap (typeOf u) tb := by
  obtain ⟨P, Z, p, hx⟩ := kit_of I ry t
  exact Z.ty _ _ I.kIn p
theorem run_own {A : Around} {pins : List (Addr × Obj)} {σ : St} {H : Hp} {s : Shared} {x y : V} {u v : Value} {R0 : VK} {R : Value → Shared → Prop} (F : FnOk X.prog X.w X.K X.mg X.base CX n f fd ps sp) (hb : Binds X.K fd ps []) (hx : Passes CX X E0) (hr : Room n A) (fr : A.frames = X.A.frames)
    (I : Inv X pins σ H s) (rx : RelV x u) (ry : RelV y v) (hsp : sp [x, y] H R0 E0) (hR : ∀ z w H' s', Inv X pins σ H' s' → RelV z w → R0 z H' → R w s') :
    wpAny (model X.prog X.w) A (call (.ref f) [u, v]) R X.xe s := by
  have e0 : Env0 X.prog X.w X.K X.mg X.base A X.stack s H := by
    have e := I.env0
    exact ⟨by rw [fr]; exact e.frames, e.mod, e.bs, e.bsz, e.funs, e.frf, e.hok, e.bare⟩
  have hl := F.len _ _ _ _ hsp
  have r2 : Vals [x, y] [u, v] := .cons rx (.cons ry .nil)
  refine wpAny_call (codeAny_mono (F.run A X.stack s H ⟨[u, v], []⟩ [u, v] [x, y] _ E0 hr e0 (by
    have := hb s [u, v] I.kIn (by simpa using hl)
    simpa using this) r2 hsp) fun r s' hq => ?_)
  cases r with
  | error e => exact hx pins σ H s e s' I hq
  | ok fl =>
    cases fl with
    | ret w =>
      obtain ⟨z, H', I', rz, q⟩ := I.after hq
      exact hR z w H' s' I' rz q
    | next => exact False.elim hq
    | brk => exact False.elim hq
    | cont => exact False.elim hq
theorem op_eqO (F : FnOk X.prog X.w X.K X.mg X.base CX n f fd ps sp) (hr : Room n X.A) (hs : PySem.W.findIn X.K (.ref C) "__eq__" = some (some (.ref f))) (hf : PySem.W.isFn X.K (.ref f) = true) (hb : Binds X.K fd ps []) (hx : Passes CX X E0) :
    OpR X (compareOp .Eq) (rOwnEq X.K C sp false) := by
  intro pins s σ H x y u v Q I rx ry h
  obtain ⟨a, dx, fs, tb, rfl, ha, ty, hn, hsp⟩ := h
  cases rx
  obtain ⟨mA, J, _⟩ := ins_get I.hok ha
  obtain ⟨od, J, _⟩ := J.look
  obtain ⟨m, hF⟩ := I.fr
  refine PySem.W.cmp_K (op := .Eq) (tb := tb) hr.units0 hF I.ok.mod.kin J (looks_of I ry ty) hn hs hf ?_
  refine run_own (x := .ref a) F hb hx hr rfl I rfl ry hsp fun z w H' s' I' rz q => ?_
  obtain ⟨c, rfl, q⟩ := q
  cases rz
  exact ⟨.bl c, H', I', rfl, q⟩
theorem op_neO (F : FnOk X.prog X.w X.K X.mg X.base CX n f fd ps sp) (hr : Room (n + 1) X.A) (hs : PySem.W.findIn X.K (.ref C) "__eq__" = some (some (.ref f))) (hf : PySem.W.isFn X.K (.ref f) = true) (hb : Binds X.K fd ps []) (hx : Passes CX X E0)
    (hne : PySem.W.findIn X.K (.ref C) "__ne__" = some (some (.builtin "object.__ne__"))) (hm : PySem.W.mroIn X.K C (.type "object") = some true) : OpR X (compareOp .NotEq) (rOwnEq X.K C sp true) := by
  intro pins s σ H x y u v Q I rx ry h
  obtain ⟨a, dx, fs, tb, rfl, ha, ty, hn, hsp⟩ := h
  cases rx
  obtain ⟨mA, J, _⟩ := ins_get I.hok ha
  obtain ⟨od, J, _⟩ := J.look
  refine ne_K (by have := hr.un; omega) I.kIn J (looks_of I ry ty) hn hs hf hne hm ?_
  refine run_own (x := .ref a) F hb hx hr.in1 rfl I rfl ry hsp fun z w H' s' I' rz q => ?_
  obtain ⟨c, rfl, q⟩ := q
  cases rz
  exact ⟨c, rfl, .bl (!c), H', I', rfl, q⟩
end
end L2.My
end
section
set_option Elab.async false
set_option linter.all false
set_option maxRecDepth 100000
set_option maxHeartbeats 4000000
/-! A tree is made, or BadTree is raised. -/
namespace L2.My
open PySem PySem.Spec PyProof.Rows
/-- the first part that is none -/
def badT (H : Hp) (h l n : V) : Option Str := if belowV 9 h = true then (if leavesB H (iV h) l = true then (if nodesB H (iV h) ((tupOf H l).getD []) n = true then none else some "nodes") else some "leaves") else some "height"
structure TrC (K : PySem.W.Frag) (C : Addr) : Prop where
  cls : Cls K C
  na : ∀ f ∈ (["height", "leaves", "nodes"] : List Str), NoAttr K C f
def spPart (C : Addr) : Sp := fun vs H Q _ => ∃ a v, vs = [.ref a, v] ∧ H a = some (exo a C none) ∧ ∀ dx H2, H dx = none → dx ≠ a → H2 = upd (upd H dx (exd dx [("part", v)])) a (exo a C (some dx)) → Q .non H2
/-- the facts of BadTree -/
structure BadC (P : Program) (w : World) (K : PySem.W.Frag) (mg : Str → Option Value) (base : Heap) (C : Addr) where
  x : XC K C
  no : PySem.W.findIn K (.ref C) "part" = some none
  fI : Addr
  fd : FuncData
  i : PySem.W.findIn K (.ref C) "__init__" = some (some (.ref fI))
  t : PySem.W.typeIn K (.ref fI) = some (.type "function")
  F : FnOk P w K mg base CX0 1 fI fd ["self", "part"] (spPart C)
  b : Binds K fd ["self", "part"] []
  g : mg "BadTree" = some (.ref C)
  P0 : Addr
  gP : mg "PostError" = some (.ref P0)
  ve : mg "ValueError" = none
  kP : PySem.W.kitOne K (.ref C) (.ref P0) = some true
  kV : PySem.W.kitOne K (.ref C) (.type "ValueError") = some true
  te : PySem.W.exmOne K (.ref C) (.ref C) = some true
theorem bad_of {C : Addr} {H1 : Hp} {v : V} {Q : XK} (h : ∀ H2 d, Same H1 H2 → H1 d = none → H2 d = some (.xd [("part", v)]) → Q (.ref C) (some d) H2) :
    [v].length ≤ 1000 ∧ ∀ a, H1 a = none → spPart C (.ref a :: ([v] ++ [])) (upd H1 a (exo a C none)) (fun u H2 => u = .non ∧ ∃ (d : Addr) (fs : List (Str × V)), H2 a = some (exo a C (some d)) ∧ H2 d = some (exd d fs) ∧ H1 d = none ∧ Q (.ref C) (some d) (upd (del H2 a) d (.xd fs))) (fun _ _ _ => False) := by
  refine ⟨by show 1 ≤ 1000; decide, fun a ha => ⟨a, v, rfl, upd_same, fun dx H2 hdx ne e => ⟨rfl, dx, [("part", v)], ?_, ?_, ?_, ?_⟩⟩⟩
  · rw [e, upd_same]
  · rw [e, upd_ne ne, upd_same]
  · rw [upd_ne ne] at hdx; exact hdx
  · have hd1 : H1 dx = none := by rw [upd_ne ne] at hdx; exact hdx
    refine h _ dx (fun p o hp => ?_) hd1 upd_same
    have n1 : p ≠ dx := fun z => by rw [z, hd1] at hp; cases hp
    have n2 : p ≠ a := fun z => by rw [z, ha] at hp; cases hp
    rw [upd_ne n1]
    show (if p = a then none else H2 p) = some o
    rw [if_neg n2, e, upd_ne n2, upd_ne n1, upd_ne n2]
    exact hp
abbrev sBad : Stmt := mB 0
def spTree (C B : Addr) : Sp := fun vs H Q E => ∃ b x dx h l n, vs = [.ref x, h, l, n] ∧ H x = some (.ins C dx []) ∧ Thg b H h ∧ Thg b H l ∧ Thg b H n ∧
  (badT H h l n = none → ∀ H', BL [x] H H' → H' x = some (.ins C dx [("height", h), ("leaves", l), ("nodes", n)]) → Q .non H') ∧
  (∀ z, badT H h l n = some z → ∀ H' d, Same H H' → H d = none → H' d = some (.xd [("part", .str z)]) → E (.ref B) (some d) H')
theorem leavesB_tup {H : Hp} {h : Nat} {v : V} (e : leavesB H h v = true) : ∃ xs, tupOf H v = some xs := by
  cases z : tupOf H v with
  | none => rw [leavesB_no z] at e; cases e
  | some xs => exact ⟨xs, rfl⟩
theorem leavesB_bl {b : Addr} {H H' : Hp} {h : Nat} {v : V} (t : Thg b H v) (s : BL [b] H H') : leavesB H' h v = leavesB H h v := by
  cases e : tupOf H v with
  | none => rw [leavesB_no e, leavesB_no ((tupOf_bl t s).trans e)]
  | some xs =>
    obtain ⟨a, _, _, _, q⟩ := tupOf_sub t e
    rw [leavesB_at e, leavesB_at ((tupOf_bl t s).trans e)]
    have qf : ∀ x ∈ xs.filter notNon, Thg b H x := fun x hx => q x (List.mem_filter.mp hx).1
    rw [all_congr (p := memB H') (q := memB H) fun x hx => by unfold memB; rw [tupOf_bl (qf x hx) s], List.map_congr_left (f := nameV H') (g := nameV H) fun x hx => by unfold nameV; rw [tupOf_bl (qf x hx) s]]
theorem nodesB_bl {b : Addr} {H H' : Hp} {h : Nat} {ls : List V} {v : V} (t : Thg b H v) (s : BL [b] H H') : nodesB H' h ls v = nodesB H h ls v := by
  cases e : tupOf H v with
  | none => rw [nodesB_no e, nodesB_no ((tupOf_bl t s).trans e)]
  | some xs =>
    obtain ⟨a, _, _, _, q⟩ := tupOf_sub t e
    rw [nodesB_at e, nodesB_at ((tupOf_bl t s).trans e)]
    rw [all_congr (p := keptB H' h ls) (q := keptB H h ls) fun x hx => keptB_bl (q x hx) s, List.map_congr_left (f := rowI H') (g := rowI H) fun x hx => rowI_bl (q x hx) s]
theorem badT_bl {b : Addr} {H H' : Hp} {h l n : V} (tl : Thg b H l) (tn : Thg b H n) (s : BL [b] H H') : badT H' h l n = badT H h l n := by
  unfold badT
  rw [leavesB_bl tl s, tupOf_bl tl s, nodesB_bl tn s]
section
variable {P : Program} {w : World} {K : PySem.W.Frag} {mg : Str → Option Value} {base : Heap} {C B : Addr}
theorem scBad : FnScope ["self", "part"] ["self", "part"] (defScope sBad) := ⟨rfl, rfl, rfl, by decide +kernel, rfl, by decide +kernel, by decide +kernel⟩
theorem ok_bad {f : Addr} {fd : FuncData} (F : Fun K "__init__" "BadTree.__init__" sBad f fd) (T : OexC K C) (hno : PySem.W.findIn K (.ref C) "part" = some none) : FnOk P w K mg base CX0 1 f fd ["self", "part"] (spPart C) := by
  refine F.ok scBad (fun vs H Q E h => ?_) (fun cdv A outer s H vs Q E hr h => ?_)
  · obtain ⟨a, v, rfl, _⟩ := h
    rfl
  · obtain ⟨a, v, rfl, ha, q⟩ := h
    exact ⟨_, pss_one (ps_ost (pv 0) (pv 1)), ⟨_, rfl, _, rfl, a, C, rfl, T, hno, .inl ⟨ha, fun dx n ne => q dx _ n ne rfl⟩⟩⟩
theorem scTr : FnScope ["self", "height", "leaves", "nodes"] ["self", "height", "leaves", "nodes"] (defScope (mT 0)) := ⟨rfl, rfl, rfl, by decide +kernel, rfl, by decide +kernel, by decide +kernel⟩
theorem ok_tree {f : Addr} {fd : FuncData} {k : Nat} (F : Fun K "__init__" "Tree.__init__" (mT 0) f fd) (T : Tx mg) (c : TrC K C) (N : BadC P w K mg base B) (cB : Cal P w K mg base (k + 4) "is_below" ["bound", "thing"] spBelow) (cL : Cal P w K mg base (k + 4) "is_leaves" ["height", "thing"] spLeav) (cN : Cal P w K mg base (k + 4) "is_nodes" ["height", "leaves", "thing"] spNods) :
    FnOk P w K mg base (CX P w) (k + 5) f fd ["self", "height", "leaves", "nodes"] (spTree C B) := by
  obtain ⟨t1, h1⟩ := T.mh
  refine F.okX scTr (fun vs H Q E h => ?_) (fun cdv A outer s H vs Q E hr h => ?_)
  · obtain ⟨b, x, dx, h, l, n, rfl, _⟩ := h
    rfl
  · obtain ⟨b, x, dx, h, l, n, rfl, hx, th, tl, tn, q, qe⟩ := h
    have tk := takes_of (X := cxOf (CX P w) P w K mg base ["self", "height", "leaves", "nodes"] "Tree.__init__" (defScope (mT 0)) f cdv A outer s H E) (E := E) rfl rfl rfl rfl
    refine ⟨_, (pss_cons (ps_if (pt_not (pt_val (pe_c cB hr (by omega) (by rfl) (pa_cons (pe_op op_add (pe_glob (v := .int 8) (by rfl) h1 ⟨_, rfl⟩) pe_int) (pa_cons (pv 1) pa_nil))))) (pss_one (ps_raise rfl tk (pmk_oex N.x.o N.i N.t N.F (hr.mono (by omega)) N.b .nil pass0 (by rfl) N.g (pa_cons pe_str pa_nil)))) pss_nil) (pss_cons (ps_if (pt_not (pt_val (pe_c cL hr (by omega) (by rfl) (pa_cons (pv 1) (pa_cons (pv 2) pa_nil))))) (pss_one (ps_raise rfl tk (pmk_oex N.x.o N.i N.t N.F (hr.mono (by omega)) N.b .nil pass0 (by rfl) N.g (pa_cons pe_str pa_nil)))) pss_nil) (pss_cons (ps_if (pt_not (pt_val (pe_c cN hr (by omega) (by rfl) (pa_cons (pv 1) (pa_cons (pv 2) (pa_cons (pv 3) pa_nil)))))) (pss_one (ps_raise rfl tk (pmk_oex N.x.o N.i N.t N.F (hr.mono (by omega)) N.b .nil pass0 (by rfl) N.g (pa_cons pe_str pa_nil)))) pss_nil) (pss_cons (ps_fld (pv 0) (pv 1) rfl) (pss_cons (ps_fld (pv 0) (pv 2) rfl) (pss_one (ps_fld (pv 0) (pv 3) rfl))))))), ?_⟩
    unfold badT at q qe
    refine ⟨_, _, rfl, rfl, _, rfl, b, _, h, rfl, th, _, rfl, ?_⟩
    have e9 : belowV ((8 : Int) + 1) h = belowV 9 h := rfl
    rw [e9]
    cases hb : belowV 9 h with
    | false =>
      rw [hb] at qe
      exact iteT (bad_of fun H2 d s n e => qe "height" (by rw [if_neg Bool.false_ne_true]) H2 d s n e)
    | true =>
    rw [hb, if_pos rfl] at q qe
    obtain ⟨b1, b2, b3⟩ := below_int hb
    generalize iV h = hn at *
    subst b1
    refine iteF ⟨_, rfl, _, rfl, b, hn, l, rfl, by omega, tl, fun H2 s2 => ⟨_, rfl, ?_⟩⟩
    cases hl : leavesB H hn l with
    | false =>
      rw [hl] at qe
      exact iteT (bad_of fun H3 d s n e => qe "leaves" (by rw [if_neg Bool.false_ne_true]) H3 d (s2.trans s) (s2.free n) e)
    | true =>
    rw [hl, if_pos rfl] at q qe
    obtain ⟨ls, els⟩ := leavesB_tup hl
    obtain ⟨la, rfl, hla, _, _⟩ := tupOf_sub tl els
    rw [els, Option.getD_some] at q qe
    refine iteF ⟨_, rfl, _, rfl, _, rfl, b, hn, la, ls, n, rfl, by omega, s2 _ _ hla, tn.same s2, fun H3 s3 => ⟨_, rfl, ?_⟩⟩
    rw [nodesB_bl tn (.same s2)]
    have s23 := s2.trans s3
    cases hnn : nodesB H hn ls n with
    | false =>
      rw [hnn] at qe
      exact iteT (bad_of fun H4 d s n e => qe "nodes" (by rw [if_neg Bool.false_ne_true]) H4 d (s23.trans s) (s23.free n) e)
    | true =>
    rw [hnn] at q
    have hx3 := s23 _ _ hx
    refine iteF ⟨_, rfl, _, rfl, x, C, dx, _, rfl, hx3, c.cls, c.na _ (by simp), by show 0 < 1000; decide, ?_⟩
    refine ⟨_, rfl, _, rfl, x, C, dx, _, rfl, upd_same, c.cls, c.na _ (by simp), by show 1 < 1000; decide, ?_⟩
    refine ⟨_, rfl, _, rfl, x, C, dx, _, rfl, upd_same, c.cls, c.na _ (by simp), by show 2 < 1000; decide, ?_⟩
    refine q rfl _ (BL.trans (.same s23) (BL.trans (.upd (by simp)) (BL.trans (.upd (by simp)) (.upd (by simp))))) (by rw [upd_same]; rfl)
end
end L2.My
end
section
set_option Elab.async false
set_option linter.all false
set_option maxRecDepth 100000
set_option maxHeartbeats 4000000
/-! Trees as data. -/
namespace L2.My
open PySem PySem.Spec PyProof.Rows
abbrev Lf : Type := Option (Str × Int)
abbrev Nd : Type := (Nat × Nat) × (Int × List Nat)
def nN (l : List Nat) : List V := l.map fun (j : Nat) => V.int j
def LfAt (H : Hp) (v : V) (l : Lf) : Prop := match l with
  | none => v = .non
  | some (z, i) => ∃ a, v = .ref a ∧ H a = some (.tup [.str z, .int i])
def NdAt (H : Hp) (v : V) (n : Nd) : Prop := ∃ a na ca, v = .ref a ∧ H a = some (.tup [.ref na, .int n.2.1, .ref ca]) ∧ H na = some (.tup [.int (n.1.1 : Nat), .int (n.1.2 : Nat)]) ∧ H ca = some (.tup (nN n.2.2))
def LvsAt (H : Hp) (a : Addr) (ls : List Lf) : Prop := ∃ vs, H a = some (.tup vs) ∧ Paired (LfAt H) vs ls
def NdsAt (H : Hp) (a : Addr) (ns : List Nd) : Prop := ∃ vs, H a = some (.tup vs) ∧ Paired (NdAt H) vs ns
theorem LfAt.tk {H H' : Hp} {v : V} {l : Lf} (h : LfAt H v l) (t : TK H H') : LfAt H' v l := by
  cases l with
  | none => exact h
  | some p =>
    obtain ⟨a, e, h1⟩ := h
    exact ⟨a, e, t _ _ h1⟩
theorem NdAt.tk {H H' : Hp} {v : V} {n : Nd} (h : NdAt H v n) (t : TK H H') : NdAt H' v n := by
  obtain ⟨a, na, ca, e, h1, h2, h3⟩ := h
  exact ⟨a, na, ca, e, t _ _ h1, t _ _ h2, t _ _ h3⟩
theorem LvsAt.tk {H H' : Hp} {a : Addr} {ls : List Lf} (h : LvsAt H a ls) (t : TK H H') : LvsAt H' a ls := by
  obtain ⟨vs, h1, h2⟩ := h
  exact ⟨vs, t _ _ h1, Paired.mapP h2 fun _ _ z => z.tk t⟩
theorem NdsAt.tk {H H' : Hp} {a : Addr} {ls : List Nd} (h : NdsAt H a ls) (t : TK H H') : NdsAt H' a ls := by
  obtain ⟨vs, h1, h2⟩ := h
  exact ⟨vs, t _ _ h1, Paired.mapP h2 fun _ _ z => z.tk t⟩
def dLf (l : Lf) : PyData := match l with
  | none => .none
  | some (z, i) => .tuple [.str z, .int i]
def dNats (l : List Nat) : PyData := .tuple (l.map fun (j : Nat) => PyData.int j)
def dNd (n : Nd) : PyData := .tuple [.tuple [.int (n.1.1 : Nat), .int (n.1.2 : Nat)], .int n.2.1, dNats n.2.2]
def dLvs (ls : List Lf) : PyData := .tuple (ls.map dLf)
def dNds (ns : List Nd) : PyData := .tuple (ns.map dNd)
/-! ### they are told by the heap -/
theorem dpNats {K : PySem.W.Frag} {H : Hp} : ∀ l : List Nat, DpAll K H (nN l) (l.map fun (j : Nat) => PyData.int j)
  | [] => .nil
  | j :: r => .cons (.int _) (dpNats r)
theorem dpLf {K : PySem.W.Frag} {H : Hp} {v : V} {l : Lf} (h : LfAt H v l) : Dp K H v (dLf l) := by
  cases l with
  | none => cases h; exact .non
  | some p =>
    obtain ⟨a, rfl, h1⟩ := h
    exact .tup (.of h1) (.cons (.str _) (.cons (.int _) .nil))
theorem dpNd {K : PySem.W.Frag} {H : Hp} {v : V} {n : Nd} (h : NdAt H v n) : Dp K H v (dNd n) := by
  obtain ⟨a, na, ca, rfl, h1, h2, h3⟩ := h
  exact .tup (.of h1) (.cons (.tup (.of h2) (.cons (.int _) (.cons (.int _) .nil))) (.cons (.int _) (.cons (.tup (.of h3) (dpNats _)) .nil)))
theorem dp_map {K : PySem.W.Frag} {H : Hp} {α : Type} {R : V → α → Prop} {f : α → PyData} {vs : List V} {xs : List α} (h : Paired R vs xs) (hr : ∀ v x, R v x → Dp K H v (f x)) : DpAll K H vs (xs.map f) := by
  induction h with
  | nil => exact .nil
  | cons r _ ih => exact .cons (hr _ _ r) ih
theorem dpLvs {K : PySem.W.Frag} {H : Hp} {a : Addr} {ls : List Lf} (h : LvsAt H a ls) : Dp K H (.ref a) (dLvs ls) := by
  obtain ⟨vs, h1, h2⟩ := h
  exact .tup (.of h1) (dp_map h2 fun _ _ r => dpLf r)
theorem dpNds {K : PySem.W.Frag} {H : Hp} {a : Addr} {ns : List Nd} (h : NdsAt H a ns) : Dp K H (.ref a) (dNds ns) := by
  obtain ⟨vs, h1, h2⟩ := h
  exact .tup (.of h1) (dp_map h2 fun _ _ r => dpNd r)
/-! ### equal just if they are the same -/
theorem eqv_int (i j : Int) : PyData.eqv (.int i) (.int j) = decide (i = j) := by
  rw [PyData.eqv, Bool.eq_iff_iff, beq_iff_eq, decide_eq_true_iff]
theorem eqv_lf (a b : Lf) : PyData.eqv (dLf a) (dLf b) = decide (a = b) := by
  cases a with
  | none =>
    cases b with
    | none => rfl
    | some p => rfl
  | some p =>
    obtain ⟨z, i⟩ := p
    cases b with
    | none => rfl
    | some q =>
      obtain ⟨y, j⟩ := q
      show PyData.eqv (.tuple [.str z, .int i]) (.tuple [.str y, .int j]) = _
      rw [PyData.eqv, PyData.eqvAll, PyData.eqvAll, PyData.eqvAll, eqv_s, eqv_int, Bool.and_true, ← Bool.decide_and]
      apply decide_eq_decide.mpr
      simp
theorem eqv_nats (a b : List Nat) : PyData.eqv (dNats a) (dNats b) = decide (a = b) := by
  unfold dNats
  rw [PyData.eqv]
  exact eqvAll_map (fun x y => by rw [eqv_int]; apply decide_eq_decide.mpr; omega) a b
theorem eqv_nd (a b : Nd) : PyData.eqv (dNd a) (dNd b) = decide (a = b) := by
  obtain ⟨⟨p, q⟩, i, l⟩ := a
  obtain ⟨⟨p', q'⟩, i', l'⟩ := b
  unfold dNd
  simp only [PyData.eqv, PyData.eqvAll, eqv_nats, eqv_int, Bool.and_true]
  rw [Bool.eq_iff_iff]
  simp only [Bool.and_eq_true, decide_eq_true_eq, beq_iff_eq, Prod.mk.injEq, Int.natCast_inj]
theorem eqv_lvs (a b : List Lf) : PyData.eqv (dLvs a) (dLvs b) = decide (a = b) := by
  unfold dLvs
  rw [PyData.eqv]
  exact eqvAll_map eqv_lf a b
theorem eqv_nds (a b : List Nd) : PyData.eqv (dNds a) (dNds b) = decide (a = b) := by
  unfold dNds
  rw [PyData.eqv]
  exact eqvAll_map eqv_nd a b
/-! ### small enough -/
structure Nice (d : PyData) : Prop where
  ls : d.leavesShort 42 = true
  sh : d.showable = true
  cl : d.canLay0 = true
  hd : d.hasDict = false
structure NiceAll (ds : List PyData) : Prop where
  ls : PyData.leavesShortAll 42 ds = true
  sh : PyData.showableAll ds = true
  cl : PyData.canLayAll0 ds = true
  hd : PyData.hasDictAll ds = false
theorem NiceAll.nil : NiceAll [] := ⟨rfl, rfl, rfl, rfl⟩
theorem NiceAll.cons {d : PyData} {ds : List PyData} (h : Nice d) (k : NiceAll ds) : NiceAll (d :: ds) :=
  ⟨by rw [PyData.leavesShortAll, h.ls, k.ls]; rfl, by rw [PyData.showableAll, h.sh, k.sh]; rfl, by rw [PyData.canLayAll0, h.cl, k.cl]; rfl, by rw [PyData.hasDictAll, h.hd, k.hd]; rfl⟩
theorem NiceAll.map {α : Type} {f : α → PyData} : ∀ {xs : List α}, (∀ x ∈ xs, Nice (f x)) → NiceAll (xs.map f)
  | [], _ => .nil
  | x :: r, h => .cons (h x List.mem_cons_self) (NiceAll.map fun y hy => h y (List.mem_cons_of_mem _ hy))
theorem Nice.tup {ds : List PyData} (h : NiceAll ds) : Nice (.tuple ds) := ⟨by rw [PyData.leavesShort]; exact h.ls, by rw [PyData.showable]; exact h.sh, by rw [PyData.canLay0]; exact h.cl, by rw [PyData.hasDict]; exact h.hd⟩
theorem Nice.lst {ds : List PyData} (h : NiceAll ds) : Nice (.list ds) := ⟨by rw [PyData.leavesShort]; exact h.ls, by rw [PyData.showable]; exact h.sh, by rw [PyData.canLay0]; exact h.cl, by rw [PyData.hasDict]; exact h.hd⟩
theorem Nice.non : Nice .none := ⟨rfl, rfl, rfl, rfl⟩
theorem Nice.boo (b : Bool) : Nice (.bool b) := ⟨rfl, rfl, rfl, rfl⟩
theorem Nice.int {i : Int} (h : i.natAbs ≤ 10 ^ 40) : Nice (.int i) := by
  have h1 : i.natAbs < 10 ^ 41 := Nat.lt_of_le_of_lt h (by decide)
  refine ⟨?_, ?_, rfl, rfl⟩
  · rw [PyData.leavesShort, decide_eq_true_iff]
    show (Str.ofString (toString i)).length ≤ 42
    rw [PySem.ofString_length]
    exact int_text_length_le10 (k := 41) (by decide) h1
  · rw [PyData.showable, decide_eq_true_iff]
    exact Nat.lt_of_lt_of_le (PySem.Flt.log2_lt_of (by decide) (Nat.lt_trans h1 (show 10 ^ 41 < 2 ^ 200 by decide))) (by decide)
theorem Nice.str {z : Str} (h : ∀ c ∈ z.cps.toList, c < 128) : Nice (.str z) := by
  refine ⟨?_, rfl, ?_, rfl⟩
  · rw [PyData.leavesShort, List.all_eq_true]
    intro c hc
    have := h c hc
    rw [decide_eq_true_iff]
    exact Nat.lt_trans this (by decide)
  · rw [PyData.canLay0]
    unfold PyData.strOk
    rw [Array.all_eq_true_iff_forall_mem]
    intro x hx
    have := h x (by simpa using hx)
    rw [decide_eq_true_eq]
    omega
theorem word_low {z : Str} (h : wordB z = true) : z.length ≤ 12 ∧ ∀ c ∈ z.cps.toList, c < 128 := by
  unfold wordB at h
  simp only [Bool.and_eq_true, decide_eq_true_eq, List.all_eq_true] at h
  refine ⟨h.2.1, fun c hc => ?_⟩
  have := h.2.2 c hc
  unfold signB at this
  rw [Bool.and_eq_true, decide_eq_true_eq, decide_eq_true_eq] at this
  omega
/-- a good leaf, a good node -/
def GLf (l : Lf) : Prop := ∀ z i, l = some (z, i) → wordB z = true ∧ 0 ≤ i ∧ i ≤ maxI
def GNd (n : Nd) : Prop := n.1.1 ≤ 8 ∧ 1 ≤ n.1.1 ∧ n.1.2 < 128 ∧ 0 ≤ n.2.1 ∧ n.2.1 ≤ maxI ∧ n.2.2.length ≤ 256 ∧ ∀ j ∈ n.2.2, j < 256
theorem nice_lf {l : Lf} (h : GLf l) : Nice (dLf l) := by
  cases l with
  | none => exact .non
  | some p =>
    obtain ⟨z, i⟩ := p
    obtain ⟨h1, h2, h3⟩ := h z i rfl
    have h3' : i ≤ 10 ^ 40 := h3
    exact .tup (.cons (.str (word_low h1).2) (.cons (.int (by omega)) .nil))
theorem nice_nd {n : Nd} (h : GNd n) : Nice (dNd n) := by
  obtain ⟨h1, h2, h3, h4, h5, _, h6⟩ := h
  have h5' : n.2.1 ≤ 10 ^ 40 := h5
  exact .tup (.cons (.tup (.cons (.int (by omega)) (.cons (.int (by omega)) .nil))) (.cons (.int (by omega)) (.cons (.tup (.map fun j hj => .int (by have := h6 j hj; omega))) .nil)))
theorem bulk_map {α : Type} {f : α → PyData} {c : Nat} : ∀ {xs : List α}, (∀ x ∈ xs, (f x).bulk + 1 ≤ c) → PyData.bulkAll (xs.map f) ≤ c * xs.length
  | [], _ => by simp [PyData.bulkAll]
  | x :: r, h => by
    have h1 := h x List.mem_cons_self
    have h2 := bulk_map (f := f) (c := c) (xs := r) fun y hy => h y (List.mem_cons_of_mem _ hy)
    rw [List.map_cons, PyData.bulkAll, List.length_cons, Nat.mul_add]
    omega
theorem bulk_lf {l : Lf} (h : GLf l) : (dLf l).bulk + 1 ≤ 16 := by
  cases l with
  | none => show 0 + 1 ≤ 16; decide
  | some p =>
    obtain ⟨z, i⟩ := p
    have h1 := (word_low (h z i rfl).1).1
    have e : z.cps.size ≤ 12 := h1
    show PyData.bulk (.tuple [.str z, .int i]) + 1 ≤ 16
    simp only [PyData.bulk, PyData.bulkAll]
    omega
theorem bulk_nd {n : Nd} (h : GNd n) : (dNd n).bulk + 1 ≤ 262 := by
  have h1 := h.2.2.2.2.2.1
  have h2 : PyData.bulkAll (n.2.2.map fun (j : Nat) => PyData.int j) ≤ 1 * n.2.2.length := bulk_map fun j _ => by simp [PyData.bulk]
  unfold dNd dNats
  simp only [PyData.bulk, PyData.bulkAll]
  omega
theorem short_tree {ds : List PyData} {ls : List Lf} {ns : List Nd} (hd : ∀ d ∈ ds, d = .tuple [] → True) (hl : ∀ l ∈ ls, GLf l) (hn : ∀ n ∈ ns, GNd n) (l1 : ls.length ≤ 256) (n1 : ns.length ≤ 1152) : (dLvs ls).bulk + (dNds ns).bulk ≤ 306000 := by
  have h1 : (dLvs ls).bulk ≤ 16 * ls.length := by
    unfold dLvs
    rw [PyData.bulk]
    exact bulk_map fun l hm => bulk_lf (hl l hm)
  have h2 : (dNds ns).bulk ≤ 262 * ns.length := by
    unfold dNds
    rw [PyData.bulk]
    exact bulk_map fun l hm => bulk_nd (hn l hm)
  omega
theorem fits_of {d : PyData} (n : Nice d) (h : d.bulk ≤ 306100) : d.shown.length ≤ sizeLine := by
  have h1 := PyData.shown_le_bulk 42 (by decide) d n.ls
  have h2 : (42 + 2) * d.bulk ≤ 44 * 306100 := Nat.mul_le_mul_left 44 h
  rw [sizeLine_eq]
  omega
end L2.My
end
section
set_option Elab.async false
set_option linter.all false
set_option maxRecDepth 100000
set_option maxHeartbeats 4000000
/-! What passed the judges is a tree; trees as they are drawn pass them. -/
namespace L2.My
open PySem PySem.Spec PyProof.Rows
theorem asc_tail {α : Type} {lt : α → α → Bool} {x : α} {r : List α} (h : ascBy lt (x :: r) = true) : ascBy lt r = true := by
  cases r with
  | nil => rfl
  | cons y r => exact (Bool.and_eq_true_iff.mp (show (lt x y && ascBy lt (y :: r)) = true from h)).2
theorem asc_gt : ∀ {r : List Int} {x : Int}, ascBy ltI (x :: r) = true → ∀ z ∈ r, x < z
  | [], _, _, z, hz => absurd hz (by simp)
  | y :: r, x, h, z, hz => by
    obtain ⟨h1, h2⟩ := Bool.and_eq_true_iff.mp (show (ltI x y && ascBy ltI (y :: r)) = true from h)
    have hxy : x < y := of_decide_eq_true h1
    rcases List.mem_cons.mp hz with e | e
    · rw [e]; exact hxy
    · have := asc_gt h2 z e
      omega
theorem asc_len {N : Int} : ∀ {l : List Int} {lo : Int}, ascBy ltI l = true → (∀ x ∈ l, lo ≤ x ∧ x < N) → lo ≤ N → (l.length : Int) ≤ N - lo
  | [], lo, _, _, h => by simp; omega
  | x :: r, lo, h, hb, _ => by
    have hx := hb x List.mem_cons_self
    have ih := asc_len (l := r) (lo := x + 1) (asc_tail h) (fun z hz => ⟨by have := asc_gt h z hz; omega, (hb z (List.mem_cons_of_mem _ hz)).2⟩) (by omega)
    rw [List.length_cons]
    push_cast
    omega
theorem asc_map {α β : Type} {lt : α → α → Bool} {lt2 : β → β → Bool} {f : α → β} : ∀ {l : List α}, (∀ x ∈ l, ∀ y ∈ l, lt x y = true → lt2 (f x) (f y) = true) → ascBy lt l = true → ascBy lt2 (l.map f) = true
  | [], _, _ => rfl
  | [x], _, _ => rfl
  | x :: y :: r, hf, h => by
    obtain ⟨h1, h2⟩ := Bool.and_eq_true_iff.mp (show (lt x y && ascBy lt (y :: r)) = true from h)
    have ih := asc_map (lt := lt) (lt2 := lt2) (f := f) (l := y :: r) (fun a ha b hb => hf a (List.mem_cons_of_mem _ ha) b (List.mem_cons_of_mem _ hb)) h2
    show (lt2 (f x) (f y) && ascBy lt2 ((y :: r).map f)) = true
    rw [hf x List.mem_cons_self y (List.mem_cons_of_mem _ List.mem_cons_self) h1, ih]
    rfl
def codeI : List Int → Int
  | [a, b] => a * 128 + b
  | _ => 0
theorem code_lt {a b c d : Int} (h1 : 0 ≤ b) (h2 : b < 128) (h3 : 0 ≤ d) (h4 : d < 128) (h : HT.lexLt [a, b] [c, d] = true) : a * 128 + b < c * 128 + d := by
  rw [HT.lexLt_cons] at h
  by_cases e : a = c
  · rw [if_pos e, HT.lexLt_cons] at h
    by_cases e2 : b = d
    · rw [if_pos e2] at h
      exact absurd (show HT.lexLt [] [] = true from h) (by decide)
    · rw [if_neg e2, decide_eq_true_eq] at h
      omega
  · rw [if_neg e, decide_eq_true_eq] at h
    omega
theorem paired_map {α β : Type} {R : α → β → Prop} {f : α → β} : ∀ {xs : List α}, (∀ x ∈ xs, R x (f x)) → Paired R xs (xs.map f)
  | [], _ => .nil
  | x :: r, h => .cons (h x List.mem_cons_self) (paired_map fun y hy => h y (List.mem_cons_of_mem _ hy))
def lfD (H : Hp) (v : V) : Lf := match tupOf H v with
  | some [.str z, .int i] => some (z, i)
  | _ => none
def rowD (H : Hp) (v : V) : Nd := match tupOf H v with
  | some [n, l, c] => ((levV H n, atV H n), (intV l, ((tupOf H c).getD []).map iV))
  | _ => ((0, 0), (0, []))
theorem good_leaf {b : Addr} {H : Hp} {v : V} (t : Thg b H v) (e : memB H v = true) : LfAt H v (lfD H v) ∧ GLf (lfD H v) := by
  obtain ⟨y, ey⟩ := mem_name e
  obtain ⟨a, rfl, ha, _, q⟩ := tupOf_sub t ey
  have e2 := e
  rw [memB_at ey, Bool.and_eq_true] at e2
  cases y with
  | int i =>
    have ed : lfD H (.ref a) = some (nameV H (.ref a), i) := by unfold lfD; rw [ey]
    rw [ed]
    have hi : 0 ≤ i := of_decide_eq_true (show decide (0 ≤ i) = true from e2.2)
    refine ⟨⟨a, rfl, ha⟩, fun z j ej => ?_⟩
    cases ej
    exact ⟨e2.1, hi, (q (.int i) (by simp)).le⟩
  | _ => exact absurd e2.2 Bool.false_ne_true
theorem good_leaves {b : Addr} {H : Hp} {h : Nat} {v : V} (t : Thg b H v) (e : leavesB H h v = true) : ∃ la vs ls, v = .ref la ∧ tupOf H v = some vs ∧ vs.length = 2 ^ h ∧ LvsAt H la ls ∧ ls.length = 2 ^ h ∧ ∀ l ∈ ls, GLf l := by
  obtain ⟨vs, ev⟩ := leavesB_tup e
  obtain ⟨la, rfl, hla, _, q⟩ := tupOf_sub t ev
  rw [leavesB_at ev, Bool.and_eq_true, Bool.and_eq_true, decide_eq_true_eq] at e
  have each : ∀ x ∈ vs, LfAt H x (lfD H x) ∧ GLf (lfD H x) := fun x hx => by
    by_cases hn : notNon x = true
    · exact good_leaf (q x hx) (List.all_eq_true.mp e.2.1 x (List.mem_filter.mpr ⟨hx, hn⟩))
    · cases x with
      | non => exact ⟨rfl, fun z i h => by cases h⟩
      | _ => exact absurd rfl hn
  refine ⟨la, vs, vs.map (lfD H), rfl, ev, e.1, ⟨vs, hla, paired_map fun x hx => (each x hx).1⟩, by rw [List.length_map]; exact e.1, fun l hl => ?_⟩
  obtain ⟨x, hx, rfl⟩ := List.mem_map.mp hl
  exact (each x hx).2
theorem nats_of {n : Int} : ∀ {xs : List V}, xs.all (belowV n) = true → xs = nN (xs.map iV)
  | [], _ => rfl
  | x :: r, h => by
    rw [List.all_cons, Bool.and_eq_true] at h
    obtain ⟨h1, _, _⟩ := below_int h.1
    show x :: r = V.int (iV x : Nat) :: nN (r.map iV)
    rw [← nats_of h.2, ← h1]
theorem pow_le7 {h l : Nat} (hh : h ≤ 8) (hl : l ≠ 0) : (2 : Int) ^ (h - l) ≤ 128 := by
  have h1 : 2 ^ (h - l) ≤ 2 ^ 7 := Nat.pow_le_pow_right (by decide) (by omega)
  have h2 : ((2 ^ (h - l) : Nat) : Int) ≤ ((2 ^ 7 : Nat) : Int) := by exact_mod_cast h1
  push_cast at h2
  exact h2
theorem good_row {b : Addr} {H : Hp} {h : Nat} {lv : List V} {v : V} (hh : h ≤ 8) (hl : lv.length ≤ 256) (t : Thg b H v) (e : keptB H h lv v = true) : NdAt H v (rowD H v) ∧ GNd (rowD H v) ∧ rowI H v = [((rowD H v).1.1 : Int), ((rowD H v).1.2 : Int)] := by
  obtain ⟨a, na, l, c, rfl, ha, ea, e1, e2, e3, e4, tn, tl, tc, er⟩ := kept_of t e
  obtain ⟨na', rfl', hna, ena, hlev, hat, hni⟩ := node_of tn e1
  cases rfl'
  have ed : rowD H (.ref a) = ((levV H (.ref na), atV H (.ref na)), (intV l, ((tupOf H c).getD []).map iV)) := by unfold rowD; rw [ea]
  rw [ed, er, hni]
  cases l with
  | int i =>
    have hi : 0 ≤ i := of_decide_eq_true (show decide (0 ≤ i) = true from e3)
    cases ec : tupOf H c with
    | none => rw [asideB_no ec] at e4; cases e4
    | some xs =>
      obtain ⟨ca, rfl, hca, _, qc⟩ := tupOf_sub tc ec
      rw [asideB_at ec, Bool.and_eq_true, Bool.and_eq_true] at e4
      obtain ⟨f1, f2, _⟩ := e4
      have bl : ∀ x ∈ xs, iV x < 256 := fun x hx => by
        obtain ⟨_, z, _⟩ := below_int (List.all_eq_true.mp f1 x hx)
        omega
      have hlen : ((xs.map intV).length : Int) ≤ 256 - 0 := asc_len f2 (fun x hx => by
        obtain ⟨y, hy, rfl⟩ := List.mem_map.mp hx
        obtain ⟨_, z1, z2⟩ := below_int (List.all_eq_true.mp f1 y hy)
        omega) (by decide)
      rw [List.length_map] at hlen
      rw [Option.getD_some]
      have h7 := pow_le7 hh e2
      refine ⟨⟨a, na, ca, rfl, ha, hna, by rw [hca, ← nats_of f1]⟩, ⟨by show levV H (.ref na) ≤ 8; omega, by show 1 ≤ levV H (.ref na); omega, by show atV H (.ref na) < 128; omega, hi, tl.le, by rw [List.length_map]; omega, fun j hj => ?_⟩, rfl⟩
      obtain ⟨x, hx, rfl⟩ := List.mem_map.mp hj
      exact bl x hx
  | _ => exact absurd e3 Bool.false_ne_true
theorem good_nodes {b : Addr} {H : Hp} {h : Nat} {lv : List V} {v : V} (hh : h ≤ 8) (hl : lv.length ≤ 256) (t : Thg b H v) (e : nodesB H h lv v = true) : ∃ na ns, v = .ref na ∧ NdsAt H na ns ∧ ns.length ≤ 1152 ∧ ∀ n ∈ ns, GNd n := by
  cases ev : tupOf H v with
  | none => rw [nodesB_no ev] at e; cases e
  | some xs =>
    obtain ⟨na, rfl, hna, _, q⟩ := tupOf_sub t ev
    rw [nodesB_at ev, Bool.and_eq_true] at e
    obtain ⟨e1, e2⟩ := e
    have each := fun x hx => good_row hh hl (q x hx) (List.all_eq_true.mp e1 x hx)
    refine ⟨na, xs.map (rowD H), rfl, ⟨xs, hna, paired_map fun x hx => (each x hx).1⟩, ?_, fun n hn => ?_⟩
    · have a1 : ascBy ltI ((xs.map (rowI H)).map codeI) = true := asc_map (lt := HT.lexLt) (fun x hx y hy hxy => by
        obtain ⟨u, hu, rfl⟩ := List.mem_map.mp hx
        obtain ⟨w, hw, rfl⟩ := List.mem_map.mp hy
        obtain ⟨_, g1, r1⟩ := each u hu
        obtain ⟨_, g2, r2⟩ := each w hw
        rw [r1, r2] at hxy ⊢
        have k1 := g1.2.2.1
        have k2 := g2.2.2.1
        exact decide_eq_true (code_lt (by omega) (by omega) (by omega) (by omega) hxy)) e2
      have a2 := asc_len (N := 1152) (lo := 0) a1 (fun x hx => by
        rw [List.map_map] at hx
        obtain ⟨u, hu, rfl⟩ := List.mem_map.mp hx
        obtain ⟨_, g1, r1⟩ := each u hu
        show 0 ≤ codeI (rowI H u) ∧ codeI (rowI H u) < 1152
        rw [r1]
        have k1 := g1.1
        have k2 := g1.2.2.1
        show 0 ≤ ((rowD H u).1.1 : Int) * 128 + ((rowD H u).1.2 : Int) ∧ ((rowD H u).1.1 : Int) * 128 + ((rowD H u).1.2 : Int) < 1152
        omega) (by decide)
      rw [List.length_map, List.length_map] at a2
      rw [List.length_map]
      omega
    · obtain ⟨x, hx, rfl⟩ := List.mem_map.mp hn
      exact (each x hx).2.1
/-- what is told of a good tree -/
structure GTr (hn : Nat) (ls : List Lf) (ns : List Nd) : Prop where
  h8 : hn ≤ 8
  ll : ls.length ≤ 256
  gl : ∀ l ∈ ls, GLf l
  nl : ns.length ≤ 1152
  gn : ∀ n ∈ ns, GNd n
theorem good_tree {b : Addr} {H : Hp} {h l n : V} (tl : Thg b H l) (tn : Thg b H n) (e : badT H h l n = none) : ∃ hn la na ls ns, h = .int (hn : Nat) ∧ l = .ref la ∧ n = .ref na ∧ LvsAt H la ls ∧ NdsAt H na ns ∧ GTr hn ls ns := by
  unfold badT at e
  split at e
  · rename_i hb
    split at e
    · rename_i hl
      split at e
      · rename_i hnn
        obtain ⟨b1, b2, _⟩ := below_int hb
        have h8 : iV h ≤ 8 := by omega
        obtain ⟨la, vs, ls, rfl, ev, lv, hL, ll, gl⟩ := good_leaves tl hl
        have l256 : 2 ^ iV h ≤ 256 := Nat.le_trans (Nat.pow_le_pow_right (by decide) h8) (by decide)
        rw [ev, Option.getD_some] at hnn
        obtain ⟨na, ns, rfl, hN, nl, gn⟩ := good_nodes h8 (by omega) tn hnn
        exact ⟨iV h, la, na, ls, ns, b1, rfl, rfl, hL, hN, h8, by omega, gl, nl, gn⟩
      · cases e
    · cases e
  · cases e
end L2.My
end
section
set_option Elab.async false
set_option linter.all false
set_option maxRecDepth 100000
set_option maxHeartbeats 4000000
/-! Expressions that make things, as k50 has them; over the box. -/
namespace L2.My
open PySem PySem.Spec PyProof.Rows
def NoTup (H : Hp) (b : Addr) : Prop := ∀ xs, H b ≠ some (.tup xs)
theorem NoTup.ne {H : Hp} {a b : Addr} {xs : List V} (h : NoTup H b) (e : H a = some (.tup xs)) : a ≠ b := fun z => h xs (z ▸ e)
theorem BoxAt.nt {H : Hp} {b g : Addr} (h : BoxAt H b g) : NoTup H b := fun xs e => by
  obtain ⟨_, _, _, _, _, _, h1, _⟩ := h
  rw [h1] at e; cases e
def Stb (b : Addr) (P : Hp → Prop) : Prop := ∀ H H', P H → BL [b] H H' → P H'
def GT (b g : Addr) (P : Hp → Prop) (σ : St) (te : TE) : Prop := ∀ H (Q : VK), BoxAt H b g → P H → (∀ H' v, BL [b] H H' → BoxAt H' b g → Thg b H' v → Q v H') → te σ H Q
def GA (b g : Addr) (P : Hp → Prop) (σ : St) (n : Nat) (ta : TA) : Prop := ∀ H (Q : List V → Hp → Prop), BoxAt H b g → P H → (∀ H' vs, BL [b] H H' → BoxAt H' b g → (∀ v ∈ vs, Thg b H' v) → vs.length = n → Q vs H') → ta σ H Q
/-- a new list of things -/
def GL (b g : Addr) (P : Hp → Prop) (σ : St) (n : Nat) (te : TE) : Prop := ∀ H (Q : VK), BoxAt H b g → P H → (∀ H' l vs, BL [b] H H' → BoxAt H' b g → H l = none → H' l = some (.lst vs) → (∀ v ∈ vs, Thg b H' v) → vs.length = n → Q (.ref l) H') → te σ H Q
section
variable {b g : Addr} {P : Hp → Prop} {σ : St}
theorem ga_nil : GA b g P σ 0 tNil := fun H Q hB _ q => q H [] .refl hB (by simp) rfl
theorem ga_cons {n : Nat} {te : TE} {ta : TA} (st : Stb b P) (h1 : GT b g P σ te) (h2 : GA b g P σ n ta) : GA b g P σ (n + 1) (tCons te ta) := fun H Q hB p q =>
  h1 H _ hB p fun H1 v bl1 hB1 t1 => h2 H1 _ hB1 (st _ _ p bl1) fun H2 vs bl2 hB2 t2 hl => q H2 (v :: vs) (bl1.trans bl2) hB2 (fun u hu => by
    rcases List.mem_cons.mp hu with z | z
    · rw [z]; exact t1.bl bl2
    · exact t2 u z) (by rw [List.length_cons, hl])
theorem gt_tup {n : Nat} {ta : TA} (hn : n ≤ 1000) (h : GA b g P σ n ta) : GT b g P σ (tTup ta) := fun H Q hB p q =>
  h H _ hB p fun H1 vs bl1 hB1 t1 hl => ⟨Nat.le_trans (show vs.length ≤ 1000 by omega) (by decide), fun a na => by
    have s := same_upd (o := HO.tup vs) na
    exact q _ _ (bl1.trans (.same s)) (hB1.same s) (.tup upd_same (hB1.nb na) (by omega) fun v hv => (t1 v hv).same s)⟩
theorem gl_lst {n : Nat} {ta : TA} (hn : n ≤ 1000) (h : GA b g P σ n ta) : GL b g P σ n (tLst ta) := fun H Q hB p q =>
  h H _ hB p fun H1 vs bl1 hB1 t1 hl => ⟨Nat.le_trans (show vs.length ≤ 1000 by omega) (by decide), fun a na => by
    have s := same_upd (o := HO.lst vs) na
    exact q _ a vs (bl1.trans (.same s)) (hB1.same s) (bl1.nw na (by simpa using hB1.nb na)) upd_same (fun v hv => (t1 v hv).same s) hl⟩
theorem gl_gt {n : Nat} {te : TE} (h : GL b g P σ n te) : GT b g P σ te := fun H Q hB p q => h H Q hB p fun H1 l vs bl hB1 nl hl _ _ => q H1 _ bl hB1 (.lst hl (hB.nb nl))
theorem gt_lst {n : Nat} {ta : TA} (hn : n ≤ 1000) (h : GA b g P σ n ta) : GT b g P σ (tLst ta) := gl_gt (gl_lst hn h)
theorem gt_int (i : Int) (h : i ≤ maxI) : GT b g P σ (tC (.int i)) := fun H Q hB _ q => q H _ .refl hB (.int i h)
theorem gt_non : GT b g P σ (tC .non) := fun H Q hB _ q => q H _ .refl hB .non
theorem gt_bl (i : Bool) : GT b g P σ (tC (.bl i)) := fun H Q hB _ q => q H _ .refl hB (.boo i)
theorem gt_str (z : Str) (h : z.length ≤ 5000) : GT b g P σ (tC (.str z)) := fun H Q hB _ q => q H _ .refl hB (.str z h)
theorem gt_var {i : Nat} {v : V} (e : σ[i]? = some (some v)) (h : ∀ H, P H → Thg b H v) : GT b g P σ (tVar i) := fun H Q hB p q => ⟨v, e, q H _ .refl hB (h H p)⟩
end
section
variable {b g : Addr} {P : Hp → Prop} {σ : St}
theorem gt_dct : GT b g P σ tDNewK := fun H Q hB _ q p np => by
  have s := same_upd (o := HO.dK []) np
  exact q _ _ (.same s) (hB.same s) (.dct upd_same (hB.nb np))
theorem gt_neg : GT b g P σ (tUn (rU fun i => .int (-i)) (tC (.int 1))) := fun H Q hB _ q => ⟨_, rfl, q H _ .refl hB (.int _ (by decide))⟩
def GB (b g : Addr) (P : Hp → Prop) (σ : St) (n : Nat) (ta : TA) : Prop := ∀ H (Q : List V → Hp → Prop), BoxAt H b g → P H → (∀ H' vs, BL [b] H H' → BoxAt H' b g → (∀ v ∈ vs, Thg b H' v) → vs.length ≤ n → Q vs H') → ta σ H Q
theorem gb_nil {n : Nat} : GB b g P σ n tNil := fun H Q hB _ q => q H [] .refl hB (by simp) (Nat.zero_le _)
theorem gb_cons {n : Nat} {te : TE} {ta : TA} (st : Stb b P) (h1 : GT b g P σ te) (h2 : GB b g P σ n ta) : GB b g P σ (n + 1) (tCons te ta) := fun H Q hB p q =>
  h1 H _ hB p fun H1 v bl1 hB1 t1 => h2 H1 _ hB1 (st _ _ p bl1) fun H2 vs bl2 hB2 t2 hl => q H2 (v :: vs) (bl1.trans bl2) hB2 (fun u hu => by
    rcases List.mem_cons.mp hu with z | z
    · rw [z]; exact t1.bl bl2
    · exact t2 u z) (by rw [List.length_cons]; omega)
theorem gt_tupB {ta : TA} (h : GB b g P σ 900 ta) : GT b g P σ (tTup ta) := fun H Q hB p q =>
  h H _ hB p fun H1 vs bl1 hB1 t1 hl => ⟨Nat.le_trans (show vs.length ≤ 1000 by omega) (by decide), fun a na => by
    have s := same_upd (o := HO.tup vs) na
    exact q _ _ (bl1.trans (.same s)) (hB1.same s) (.tup upd_same (hB1.nb na) (by omega) fun v hv => (t1 v hv).same s)⟩
theorem gt_lstB {ta : TA} (h : GB b g P σ 900 ta) : GT b g P σ (tLst ta) := fun H Q hB p q =>
  h H _ hB p fun H1 vs bl1 hB1 t1 hl => ⟨Nat.le_trans (show vs.length ≤ 1000 by omega) (by decide), fun a na => by
    have s := same_upd (o := HO.lst vs) na
    exact q _ _ (bl1.trans (.same s)) (hB1.same s) (.lst upd_same (hB1.nb na))⟩
theorem gl_lst' {n : Nat} {ta : TA} (h : GA b g P σ n ta) (hn : n ≤ 1000) : GL b g P σ n (tLst ta) := gl_lst hn h
theorem tt (b : Addr) : Stb b fun _ => True := fun _ _ _ _ => trivial
end
theorem Thg.put {b l : Addr} {H : Hp} {v : V} {xs ys : List V} (h : Thg b H v) (hl : H l = some (.lst xs)) : Thg b (upd H l (.lst ys)) v := by
  have th : ∀ {v : V} {t : String}, ThT H v t → ThT (upd H l (.lst ys)) v t := fun {v t} h => by
    cases h with
    | non => exact .non
    | bl c => exact .bl c
    | int i => exact .int i
    | str x => exact .str x
    | @lst a zs h =>
      by_cases e : a = l
      · subst e; exact .lst upd_same
      · exact .lst (by rw [upd_ne e]; exact h)
    | @tup a zs h =>
      have e : a ≠ l := fun z => by rw [z, hl] at h; cases h
      exact .tup (by rw [upd_ne e]; exact h)
    | @dct a zs h =>
      have e : a ≠ l := fun z => by rw [z, hl] at h; cases h
      exact .dct (by rw [upd_ne e]; exact h)
  have s0 : ∀ {v : V}, Sh0 b H v → Sh0 b (upd H l (.lst ys)) v := fun {v} ⟨⟨t, h1⟩, h2⟩ => ⟨⟨t, th h1⟩, h2⟩
  intro n
  have := h n
  clear h
  induction n generalizing v with
  | zero => exact s0 this
  | succ n ih =>
    refine ⟨s0 this.1, fun a zs e ea => ?_⟩
    have ne : a ≠ l := fun z => by rw [z, upd_same] at ea; cases ea
    rw [upd_ne ne] at ea
    obtain ⟨q1, q2⟩ := this.2 a zs e ea
    exact ⟨q1, fun x hx => ih (q2 x hx)⟩
/-- an expression that makes a tuple of things -/
def GU (b g : Addr) (P : Hp → Prop) (σ : St) (n : Nat) (te : TE) : Prop := ∀ H (Q : VK), BoxAt H b g → P H → (∀ H' a vs, BL [b] H H' → BoxAt H' b g → H' a = some (.tup vs) → (∀ v ∈ vs, Thg b H' v) → vs.length ≤ n → Q (.ref a) H') → te σ H Q
section
variable {K : PySem.W.Frag} {b g : Addr} {P : Hp → Prop} {σ : St}
theorem gu_gt {n : Nat} {te : TE} (h : GU b g P σ n te) (hn : n ≤ 5000) : GT b g P σ te := fun H Q hB p q => h H _ hB p fun H1 a vs bl hB1 ha ht hl => q H1 _ bl hB1 (.tup ha (hB1.nt.ne ha) (by omega) ht)
theorem gu_mono {n m : Nat} {te : TE} (h : GU b g P σ n te) (hn : n ≤ m) : GU b g P σ m te := fun H Q hB p q => h H _ hB p fun H1 a vs bl hB1 ha ht hl => q H1 a vs bl hB1 ha ht (by omega)
theorem gu_var {i n : Nat} {a : Addr} {vs : List V} (e : σ[i]? = some (some (.ref a))) (h : ∀ H, P H → H a = some (.tup vs) ∧ ∀ v ∈ vs, Thg b H v) (hn : vs.length ≤ n) : GU b g P σ n (tVar i) := fun H Q hB p q => ⟨_, e, q H a vs .refl hB (h H p).1 (h H p).2 hn⟩
theorem gu_tup1 {te : TE} (h : GT b g P σ te) : GU b g P σ 1 (tTup (tCons te tNil)) := fun H Q hB p q => h H _ hB p fun H1 v bl hB1 tv => ⟨by show 1 ≤ sizeLine; decide, fun a na => by
  have s := same_upd (o := HO.tup [v]) na
  exact q _ a [v] (bl.trans (.same s)) (hB1.same s) upd_same (fun x hx => by rw [List.mem_singleton.mp hx]; exact tv.same s) (Nat.le_refl 1)⟩
theorem gu_cat {n m : Nat} {t1 t2 : TE} (st : Stb b P) (h1 : GU b g P σ n t1) (h2 : GU b g P σ m t2) (hnm : n + m ≤ 100000) : GU b g P σ (n + m) (tOp (rCatA K) t1 t2) := fun H Q hB p q =>
  h1 H _ hB p fun H1 a vs bl1 hB1 ha tv hl => h2 H1 _ hB1 (st _ _ p bl1) fun H2 c ws bl2 hB2 hc tw hm => by
    have ha2 := bl2 _ _ (by simpa using hB1.nt.ne ha) ha
    have tv2 : ∀ v ∈ vs, Thg b H2 v := fun v hv => (tv v hv).bl bl2
    refine ⟨a, c, vs, ws, rfl, rfl, .of ha2, .of hc, Nat.le_trans (show vs.length + ws.length ≤ 100000 by omega) (by decide), fun _ => q _ c ws (bl1.trans bl2) hB2 hc tw (by omega), fun _ _ => q _ a vs (bl1.trans bl2) hB2 ha2 tv2 (by omega), fun _ _ x nx => ?_⟩
    have s := same_upd (o := HO.tup (vs ++ ws)) nx
    refine q _ x (vs ++ ws) ((bl1.trans bl2).trans (.same s)) (hB2.same s) upd_same (fun v hv => ?_) (by rw [List.length_append]; omega)
    rcases List.mem_append.mp hv with z | z
    · exact (tv2 v z).same s
    · exact (tw v z).same s
theorem cut_mem {xs : List V} {lo hi : Option Int} {v : V} (h : v ∈ cutV xs lo hi) : v ∈ xs := List.mem_of_mem_drop (List.mem_of_mem_take h)
theorem cut_len {xs : List V} {lo hi : Option Int} : (cutV xs lo hi).length ≤ xs.length := by
  unfold cutV
  rw [List.length_take, List.length_drop]
  omega
theorem gu_slc {n : Nat} {te : TE} {lo hi : Option Int} (h : GU b g P σ n te) {tl th : TO} (hl : ∀ H (Q : Option Int → Hp → Prop), Q lo H → tl σ H Q) (hh : ∀ H (Q : Option Int → Hp → Prop), Q hi H → th σ H Q) : GU b g P σ n (tSl (rSlA K) te tl th) := fun H Q hB p q =>
  h H _ hB p fun H1 a vs bl1 hB1 ha tv hlen => hl _ _ (hh _ _ ⟨a, vs, rfl, .of ha, fun _ => q _ a vs bl1 hB1 ha tv hlen, fun _ x nx => by
    have s := same_upd (o := HO.tup (cutV vs lo hi)) nx
    exact q _ x _ (bl1.trans (.same s)) (hB1.same s) upd_same (fun v hv => (tv v (cut_mem hv)).same s) (Nat.le_trans cut_len hlen)⟩)
theorem to_no (H : Hp) (Q : Option Int → Hp → Prop) (q : Q none H) : tNoPart σ H Q := q
theorem to_var {i : Nat} {n : Int} (e : σ[i]? = some (some (.int n))) (H : Hp) (Q : Option Int → Hp → Prop) (q : Q (some n) H) : tPart (tVar i) σ H Q := ⟨_, e, n, rfl, q⟩
theorem gu_ix {i n : Nat} {j : Int} {p0 a : Addr} {xs vs : List V} (e : σ[i]? = some (some (.ref p0))) (h : ∀ H, P H → H p0 = some (.tup xs) ∧ H a = some (.tup vs) ∧ ∀ v ∈ vs, Thg b H v) (hj : atI xs j = some (.ref a)) (hn : vs.length ≤ n) : GU b g P σ n (tOp (rIxT K) (tVar i) (tC (.int j))) := fun H Q hB p q =>
  ⟨_, e, p0, xs, j, _, rfl, rfl, .of (h H p).1, hj, q H a vs .refl hB (h H p).2.1 (h H p).2.2 hn⟩
theorem gu_ixl {i k n : Nat} {j : Int} {p0 a : Addr} {xs vs : List V} (e : σ[i]? = some (some (.ref p0))) (ek : σ[k]? = some (some (.int j))) (h : ∀ H, P H → H p0 = some (.lst xs) ∧ H a = some (.tup vs) ∧ ∀ v ∈ vs, Thg b H v) (hj : atI xs j = some (.ref a)) (hn : vs.length ≤ n) : GU b g P σ n (tOp (rIxL K) (tVar i) (tVar k)) := fun H Q hB p q =>
  ⟨_, e, _, ek, p0, xs, j, _, rfl, rfl, .of (h H p).1, hj, q H a vs .refl hB (h H p).2.1 (h H p).2.2 hn⟩
theorem gt_listof {n : Nat} {te : TE} (h : GU b g P σ n te) : GT b g P σ (tCB (fun xs H Q => ∃ p ys, xs = [V.ref p] ∧ (SqL K H p ys ∨ SqT K H p ys) ∧ ∀ l, H l = none → Q (V.ref l) (upd H l (HO.lst ys))) (tCons te tNil)) := fun H Q hB p q =>
  h H _ hB p fun H1 a vs bl hB1 ha tv hl => ⟨a, vs, rfl, .inr (.of ha), fun l nl => by
    have s := same_upd (o := HO.lst vs) nl
    exact q _ _ (bl.trans (.same s)) (hB1.same s) (.lst upd_same (hB1.nb nl))⟩
end
theorem stb_bl (b : Addr) (H0 : Hp) : Stb b fun G => BL [b] H0 G := fun _ _ h s => h.trans s
theorem ixN_nat {n j : Nat} (h : j < n) : ixN n (j : Int) = some j := by
  unfold ixN
  rw [if_pos (by omega), if_pos (by omega)]
  simp
end L2.My
end
section
set_option Elab.async false
set_option linter.all false
set_option maxRecDepth 100000
set_option maxHeartbeats 4000000
/-! The law's small ones: name, lock, beneath, int, named, odd, set. -/
namespace L2.My
open PySem PySem.Spec PyProof.Rows
open TL (joinL tl_join tl join_eq)
abbrev sName : Stmt := top 34
abbrev sLock : Stmt := top 35
abbrev sBen : Stmt := top 36
theorem join_all : ∀ (ys : List Str), (∀ y ∈ ys, y.length = 1 ∧ y.cps.toList.all signB = true) → (Txt.join "" ys).length = ys.length ∧ (Txt.join "" ys).cps.toList.all signB = true := fun ys h => by
  have e : (Txt.join "" ys).cps.toList = joinL (tl "") (ys.map tl) := by
    rw [join_eq]
    exact tl_join "" ys
  have e2 : tl "" = [] := rfl
  have key : ∀ (zs : List Str), (∀ y ∈ zs, y.length = 1 ∧ y.cps.toList.all signB = true) → (joinL [] (zs.map tl)).length = zs.length ∧ (joinL [] (zs.map tl)).all signB = true := by
    intro zs
    induction zs with
    | nil => intro _; exact ⟨rfl, rfl⟩
    | cons x r ih =>
      intro h
      obtain ⟨h1, h2⟩ := h x List.mem_cons_self
      obtain ⟨i1, i2⟩ := ih fun y hy => h y (List.mem_cons_of_mem _ hy)
      have hx : (tl x).length = 1 := by
        have : x.cps.toList.length = 1 := by rw [Array.length_toList]; exact h1
        exact this
      cases r with
      | nil => exact ⟨hx, h2⟩
      | cons y r =>
        show (tl x ++ ([] ++ joinL [] ((y :: r).map tl))).length = _ ∧ (tl x ++ ([] ++ joinL [] ((y :: r).map tl))).all signB = true
        rw [List.nil_append, List.length_append, List.all_append, i1, i2, hx, Bool.and_true]
        exact ⟨by simp only [List.length_cons]; omega, h2⟩
  obtain ⟨k1, k2⟩ := key ys h
  rw [e2] at e
  refine ⟨?_, by rw [e]; exact k2⟩
  have : (Txt.join "" ys).cps.toList.length = ys.length := by rw [e]; exact k1
  rw [Array.length_toList] at this
  exact this
def betw (lo hi : Int) : V → Bool
  | .int i => decide (lo ≤ i ∧ i ≤ hi)
  | _ => false
def spName : Sp := fun vs H Q _ => ∃ (b g : Addr), vs = [.ref b] ∧ BoxAt H b g ∧ ∀ H' z, BL [b] H H' → BoxAt H' b g → wordB z = true → Q (.str z) H'
def spLock : Sp := fun vs H Q _ => ∃ (b g : Addr), vs = [.ref b] ∧ BoxAt H b g ∧ ∀ H' r, BL [b] H H' → BoxAt H' b g → 0 ≤ r → r ≤ maxI → Q (.int r) H'
def benL (lev idx : Nat) : List Nat := (List.range (2 ^ lev)).map fun k => idx * 2 ^ lev + k
def spBen : Sp := fun vs H Q _ => ∃ (a : Addr) (lev idx : Nat), vs = [.ref a] ∧ H a = some (.tup [.int (lev : Nat), .int (idx : Nat)]) ∧ lev ≤ 8 ∧ idx ≤ 1000 ∧ ∀ H' l, Same H H' → H l = none → H' l = some (.lst (nN (benL lev idx))) → Q (.ref l) H'
def spLint : Sp := fun vs H Q _ => ∃ (b : Addr) (v : V) (lo hi : Int), vs = [v, .int lo, .int hi] ∧ Thg b H v ∧ Q (.bl (betw lo hi v)) H
def spOdd : Sp := fun vs H Q _ => ∃ (b g : Addr), vs = [.ref b] ∧ BoxAt H b g ∧ ∀ H' v, BL [b] H H' → BoxAt H' b g → Thg b H' v → Q v H'
def spSet : Sp := fun vs H Q _ => ∃ (a : Addr) (xs : List V) (n : Nat) (v : V), vs = [.ref a, .int (n : Nat), v] ∧ H a = some (.tup xs) ∧ n < xs.length ∧ xs.length ≤ 5000 ∧ ∀ H' c, Same H H' → H' c = some (.tup (xs.set n v)) → Q (.ref c) H'
theorem betw_cases {H : Hp} {v : V} {t : String} {lo hi : Int} (h : ThT H v t) : (∃ i, v = .int i ∧ t = "int") ∨ (∃ c, v = .bl c ∧ t = "bool") ∨ (betw lo hi v = false ∧ instT t "int" = false) := by
  cases h with
  | int i => exact .inl ⟨i, rfl, rfl⟩
  | bl c => exact .inr (.inl ⟨c, rfl, rfl⟩)
  | _ => exact .inr (.inr ⟨rfl, by decide⟩)
theorem catA_ref {K : PySem.W.Frag} {H : Hp} {a b : Addr} {xs ys : List V} {Q : VK} (ha : H a = some (.tup xs)) (hb : H b = some (.tup ys)) (hl : xs.length + ys.length ≤ sizeLine) (h : ∀ c G, Same H G → G c = some (.tup (xs ++ ys)) → Q (.ref c) G) : rCatA K (.ref a) (.ref b) H Q :=
  ⟨a, b, xs, ys, rfl, rfl, .of ha, .of hb, hl, fun e => h b H (Same.refl _) (by rw [e]; exact hb), fun _ e => h a H (Same.refl _) (by rw [e, List.append_nil]; exact ha), fun _ _ x nx => h x _ (same_upd nx) upd_same⟩
theorem slc_ref {K : PySem.W.Frag} {H : Hp} {a : Addr} {xs : List V} {lo hi : Option Int} {Q : VK} (ha : H a = some (.tup xs)) (h : ∀ c G, Same H G → G c = some (.tup (cutV xs lo hi)) → Q (.ref c) G) : rSlA K (.ref a) lo hi H Q := by
  refine ⟨a, xs, rfl, .of ha, fun w => h a H (Same.refl _) ?_, fun _ x nx => h x _ (same_upd nx) upd_same⟩
  rw [ha]
  unfold cutV
  rw [w.1, w.2, List.drop_zero, Nat.sub_zero, List.take_length]
/-- a comprehension whose calls touch the box alone -/
theorem lcB {J : It} {n : Nat} {G : Hp → Prop} {Y : Nat → Hp → V → Hp → Prop} {b gg D : Addr} {H1 : Hp} {Qd : Hp → Prop} {σ : St} {g : TG} {tt : TT} {te : TE} {vs : List Nat} (w : Walk J n G Y) (R : Nat → List V → Prop) (hn : n < sizeLine) (hD : H1 D = none) (hB : BoxAt H1 b gg)
    (hG : ∀ H', BL [b] H1 H' → BoxAt H' b gg → G H') (h0 : R 0 [])
    (hs : ∀ i x H H' (Q' : VK) (N' : Hp → Prop) acc, i < n → BL [b] H1 H → BoxAt H b gg → R i acc → Y i H x H' → (∀ v H4, BL [b] H H4 → BoxAt H4 b gg → R (i + 1) (acc ++ [v]) → Q' v H4) → (R (i + 1) acc → ∀ H4, BL [b] H H4 → BoxAt H4 b gg → N' H4) →
      g x (wipe σ vs) H' fun σ2 H2 => wipe σ2 vs = wipe σ vs ∧ tt σ2 H2 fun c H3 => if c = true then te σ2 H3 Q' else N' H3)
    (hd : ∀ H acc, BL [b] H1 H → BoxAt H b gg → H D = some (.lst acc) → R n acc → acc.length ≤ n → Qd H) : CompOut J g tt te vs σ D Qd H1 := by
  have nb := hB.nb hD
  have ng := hB.ng hD
  refine lc_it w (fun i H => BL [b] H1 H ∧ BoxAt H b gg ∧ ∃ acc, H D = some (.lst acc) ∧ R i acc ∧ acc.length ≤ i) ⟨.same (same_upd hD), hB.same (same_upd hD), [], upd_same, h0, Nat.le_refl _⟩ (fun i H _ h => hG H h.1 h.2.1) ?_ (fun H ⟨h1, h2, acc, h3, h4, h5⟩ => hd H acc h1 h2 h3 h4 h5)
  rintro i x H H' hi ⟨bl, hb, acc, hacc, hR, hlen⟩ y
  refine hs i x H H' _ _ acc hi bl hb hR y (fun v H4 bl4 hb4 hR4 => ?_) (fun hR4 H4 bl4 hb4 => ⟨bl.trans bl4, hb4, acc, bl4 _ _ (by simpa using nb) hacc, hR4, by omega⟩)
  exact ⟨acc, bl4 _ _ (by simpa using nb) hacc, by omega, BL.put (bl.trans bl4) hD, hb4.put nb ng, acc ++ [v], upd_same, hR4, by rw [List.length_append, List.length_singleton]; omega⟩
theorem sum_ones : ∀ ys : List Str, (∀ y ∈ ys, y.length = 1) → (ys.map (·.length)).sum = ys.length
  | [], _ => rfl
  | y :: r, h => by
    rw [List.map_cons, List.sum_cons, h y List.mem_cons_self, sum_ones r fun z hz => h z (List.mem_cons_of_mem _ hz), List.length_cons, Nat.add_comm]
theorem letters : ("abcdefghijklmnopqrstuvwxyz" : Str).cps.toList = [97, 98, 99, 100, 101, 102, 103, 104, 105, 106, 107, 108, 109, 110, 111, 112, 113, 114, 115, 116, 117, 118, 119, 120, 121, 122] := by decide +kernel
theorem in_letters (c : Nat) : decide (c ∈ ("abcdefghijklmnopqrstuvwxyz" : Str).cps.toList) = signB c := by
  rw [letters]
  unfold signB
  rw [← Bool.decide_and]
  refine decide_eq_decide.mpr ?_
  simp only [List.mem_cons, List.not_mem_nil, or_false]
  omega
theorem letter_at {r : Int} (h0 : 0 ≤ r) (h1 : r < 26) : ∃ c, atI ("abcdefghijklmnopqrstuvwxyz" : Str).cps.toList r = some c ∧ signB c = true := by
  rw [letters]
  obtain ⟨j, rfl⟩ : ∃ j : Nat, r = j := ⟨r.toNat, by omega⟩
  have hj : j < 26 := by omega
  refine ⟨97 + j, ?_, ?_⟩
  · have : ∀ j : Fin 26, atI ([97, 98, 99, 100, 101, 102, 103, 104, 105, 106, 107, 108, 109, 110, 111, 112, 113, 114, 115, 116, 117, 118, 119, 120, 121, 122] : List Nat) ((j.1 : Nat) : Int) = some (97 + j.1) := by decide +kernel
    exact this ⟨j, hj⟩
  · unfold signB
    rw [decide_eq_true (by omega), decide_eq_true (by omega)]
    rfl
section
variable {P : Program} {w : World} {K : PySem.W.Frag} {mg : Str → Option Value} {base : Heap}
theorem scName : FnScope ["box", "many", "k"] ["box"] (defScope sName) := ⟨rfl, rfl, rfl, by decide +kernel, rfl, by decide +kernel, by decide +kernel⟩
theorem ok_name {f : Addr} {fd : FuncData} {k : Nat} (F : Fun K "_law_name" "_law_name" sName f fd) (T : Tx mg) (cD : Cal P w K mg base (k + 3) "_law_draw" ["box", "menu"] spDraw) : FnOk P w K mg base CX0 (k + 4) f fd ["box"] spName := by
  refine F.ok scName (fun vs H Q E h => ?_) (fun cdv A outer s H vs Q E hr h => ?_)
  · obtain ⟨b, g, rfl, _⟩ := h
    rfl
  · obtain ⟨b, g, rfl, hB, q⟩ := h
    refine ⟨_, (pss_cons (ps_set (i := 1) scName.nd rfl (Or.inl rfl) (pe_ifExp (pt_cmpR op_eq (pe_c cD hr (by omega) (by rfl) (pa_cons (pv 0) (pa_cons pe_int pa_nil))) pe_int (nomark _)) (pe_op op_add pe_int (pe_c cD hr (by omega) (by rfl) (pa_cons (pv 0) (pa_cons pe_int pa_nil)))) pe_int)) (pss_one (ps_ret (pe_join pe_str (pe_lc (own := [("k", 2)]) (g := gName 2) (te := tOp rIxS (tC (.str "abcdefghijklmnopqrstuvwxyz")) (tCall spDraw [] E0 (tCons (tVar 0) (tCons (tC (.int 26)) tNil)))) rfl scName.nd (pi_range1 (by rfl) T.range_ (pa_cons (pv 1) pa_nil)) (blkOk_by (N := ["box", "many", "k"]) (sc := defScope sName) (by decide +kernel)) (fun _ _ _ _ _ => pg_name (i := 2) scName.nd rfl (Or.inl rfl)) (fun _ _ _ _ _ => pts_nil) (fun _ _ _ _ _ => (pe_ix ix_str pe_str (pe_c cD hr (by omega) (by rfl) (pa_cons (pv 0) (pa_cons pe_int pa_nil))) (fun _ _ => rfl)))))))), ?_⟩
    refine seq_use (fun σ G => ∃ m : Int, σ = [some (.ref b), some (.int m), none] ∧ BL [b] H G ∧ BoxAt G b g ∧ 1 ≤ m ∧ m ≤ 12) ?_ (fun hrest => ?_)
    · rintro σ G ⟨m, rfl, bl, hBG, m1, m2⟩
      refine ⟨⟨"", rfl⟩, _, rfl, m, rfl, by omega, by omega, fun D nD => ?_⟩
      refine lcB (walk_range (lo := 0)) (fun i acc => ∃ ys : List Str, acc = ys.map V.str ∧ ys.length = i ∧ ∀ y ∈ ys, y.length = 1 ∧ y.cps.toList.all signB = true) (Nat.lt_of_le_of_lt (show m.toNat ≤ 12 by omega) (by decide)) nD hBG (fun _ _ _ => trivial) ⟨[], rfl, rfl, by simp⟩ ?_ ?_
      · rintro i x G1 G2 Q' N' acc hi bl1 hB1 ⟨ys, rfl, hlen, hys⟩ ⟨rfl, rfl⟩ hq _
        refine ⟨rfl, ?_⟩
        show tOp rIxS (tC (.str "abcdefghijklmnopqrstuvwxyz")) (tCall spDraw [] E0 (tCons (tVar 0) (tCons (tC (.int 26)) tNil))) _ _ _
        refine ⟨_, rfl, b, g, 26, rfl, hB1, by decide, by decide, fun G3 r bl3 hB3 r0 r1 => ?_⟩
        obtain ⟨c, hc, hs⟩ := letter_at r0 r1
        refine ⟨_, r, c, rfl, rfl, by decide +kernel, hc, hq _ G3 bl3 hB3 ⟨ys ++ [⟨#[c]⟩], by rw [List.map_append]; rfl, by rw [List.length_append, hlen]; rfl, fun y hy => ?_⟩⟩
        rcases List.mem_append.mp hy with z | z
        · exact hys y z
        · rw [List.mem_singleton.mp z]
          exact ⟨rfl, by show (signB c && true) = true; rw [hs]; rfl⟩
      · rintro G3 acc bl3 hB3 hD3 ⟨ys, rfl, hlen, hys⟩ _
        obtain ⟨j1, j2⟩ := join_all ys hys
        refine ⟨"", D, ys, rfl, rfl, .inl (.of hD3), ?_, q G3 _ (bl.trans bl3) hB3 ?_⟩
        · have e2 : ("" : Str).length = 0 := rfl
          rw [sum_ones ys fun y hy => (hys y hy).1, e2, Nat.mul_zero]
          omega
        · unfold wordB
          rw [j1, j2, decide_eq_true (by omega), decide_eq_true (by omega)]
          rfl
    · refine ⟨_, rfl, b, g, 3, rfl, hB, by decide, by decide, fun G1 r bl1 hB1 r0 r1 => ⟨rfl, _, rfl, ?_⟩⟩
      refine ite2 (fun _ => ?_) (fun _ => hrest _ _ ⟨1, rfl, bl1, hB1, by decide, by decide⟩)
      exact ⟨_, rfl, b, g, 12, rfl, hB1, by decide, by decide, fun G2 r2 bl2 hB2 r20 r21 => ⟨_, _, rfl, rfl, hrest _ _ ⟨_, rfl, bl1.trans bl2, hB2, by omega, by omega⟩⟩⟩
theorem scLock : FnScope ["box"] ["box"] (defScope sLock) := ⟨rfl, rfl, rfl, by decide +kernel, rfl, by decide +kernel, by decide +kernel⟩
theorem ok_lock {f : Addr} {fd : FuncData} {k : Nat} (F : Fun K "_law_lock" "_law_lock" sLock f fd) (T : Tx mg) (cD : Cal P w K mg base (k + 3) "_law_draw" ["box", "menu"] spDraw) : FnOk P w K mg base CX0 (k + 4) f fd ["box"] spLock := by
  refine F.ok scLock (fun vs H Q E h => ?_) (fun cdv A outer s H vs Q E hr h => ?_)
  · obtain ⟨b, g, rfl, _⟩ := h
    rfl
  · obtain ⟨b, g, rfl, hB, q⟩ := h
    refine ⟨_, (pss_one (ps_ret (pe_ifExp (pt_cmpR op_eq (pe_c cD hr (by omega) (by rfl) (pa_cons (pv 0) (pa_cons pe_int pa_nil))) pe_int (nomark _)) (pe_c cD hr (by omega) (by rfl) (pa_cons (pv 0) (pa_cons (pe_op op_pow pe_int pe_int) pa_nil))) (pe_c cD hr (by omega) (by rfl) (pa_cons (pv 0) (pa_cons pe_int pa_nil)))))), ?_⟩
    refine ⟨_, rfl, b, g, 9, rfl, hB, by decide, by decide, fun G1 r bl1 hB1 r0 r1 => ⟨rfl, _, rfl, ?_⟩⟩
    refine ite2 (fun _ => ?_) (fun _ => ?_)
    · refine ⟨_, rfl, _, _, rfl, rfl, ⟨by decide, by decide, by decide⟩, b, g, _, rfl, hB1, by decide, by decide, fun G2 r2 bl2 hB2 r20 r21 => q G2 r2 (bl1.trans bl2) hB2 r20 ?_⟩
      have e : (10 : Int) ^ (Int.toNat 30) ≤ maxI := by decide
      omega
    · refine ⟨_, rfl, b, g, 60, rfl, hB1, by decide, by decide, fun G2 r2 bl2 hB2 r20 r21 => q G2 r2 (bl1.trans bl2) hB2 r20 ?_⟩
      have e : (60 : Int) ≤ maxI := by decide
      omega
abbrev nBen : List Str := ["node", "level", "index", "first", "many", "k"]
theorem scBen : FnScope nBen ["node"] (defScope sBen) := ⟨rfl, rfl, rfl, by decide +kernel, rfl, by decide +kernel, by decide +kernel⟩
theorem ok_ben {f : Addr} {fd : FuncData} {k : Nat} (F : Fun K "_law_beneath" "_law_beneath" sBen f fd) (T : Tx mg) : FnOk P w K mg base CX0 (k + 1) f fd ["node"] spBen := by
  refine F.ok scBen (fun vs H Q E h => ?_) (fun cdv A outer s H vs Q E hr h => ?_)
  · obtain ⟨a, lev, idx, rfl, _⟩ := h
    rfl
  · obtain ⟨a, lev, idx, rfl, ha, hl, hx, q⟩ := h
    refine ⟨_, (pss_cons (ps_asg (pv 0) (pg_tup rfl (pgs_cons (pg_name (i := 1) scBen.nd rfl (Or.inl rfl)) (pgs_cons (pg_name (i := 2) scBen.nd rfl (Or.inl rfl)) pgs_nil)))) (pss_cons (ps_asg (pe_tup (pa_cons (pv 2) (pa_cons pe_int pa_nil))) (pg_tup rfl (pgs_cons (pg_name (i := 3) scBen.nd rfl (Or.inr rfl)) (pgs_cons (pg_name (i := 4) scBen.nd rfl (Or.inl rfl)) pgs_nil)))) (pss_cons (ps_for PassesOwn.never rfl (pi_range1 (by rfl) T.range_ (pa_cons (pv 1) pa_nil)) (pg_name (i := 5) scBen.nd rfl (Or.inl rfl)) (pss_one (ps_asg (pe_tup (pa_cons (pe_op op_mul pe_int (pv 3)) (pa_cons (pe_op op_mul pe_int (pv 4)) pa_nil))) (pg_tup rfl (pgs_cons (pg_name (i := 3) scBen.nd rfl (Or.inr rfl)) (pgs_cons (pg_name (i := 4) scBen.nd rfl (Or.inl rfl)) pgs_nil)))))) (pss_one (ps_ret (pe_lc (own := [("k", 5)]) (g := gName 5) rfl scBen.nd (pi_range1 (by rfl) T.range_ (pa_cons (pv 4) pa_nil)) (blkOk_by (N := nBen) (sc := defScope sBen) (by decide +kernel)) (fun _ _ _ _ _ => pg_name (i := 5) scBen.nd rfl (Or.inl rfl)) (fun _ _ _ _ _ => pts_nil) (fun _ _ _ _ _ => (pe_op op_add (pv 3) (pv 5))))))))), ?_⟩
    refine ⟨_, rfl, a, _, rfl, .of ha, rfl, _, _, rfl, _, _, rfl, rfl, ?_⟩
    refine ⟨_, rfl, by show 2 ≤ sizeLine; decide, fun p np => ⟨p, _, rfl, .of upd_same, rfl, _, _, rfl, _, _, rfl, rfl, ?_⟩⟩
    have s1 := same_upd (o := HO.tup [.int (idx : Nat), .int 1]) np
    generalize upd H p (.tup [.int (idx : Nat), .int 1]) = H1 at *
    refine ⟨_, rfl, _, rfl, by omega, by omega, ?_⟩
    refine for_it (walk_range (lo := 0)) (fun i σ G => ∃ y5, σ = [some (.ref a), some (.int (lev : Nat)), some (.int (idx : Nat)), some (.int ((idx * 2 ^ i : Nat) : Int)), some (.int ((2 ^ i : Nat) : Int)), y5] ∧ Same H G) ⟨_, by rw [Nat.pow_zero, Nat.mul_one]; rfl, s1⟩ (fun i σ G _ _ => trivial) ?_ ?_
    · rintro i y σ G G' hi ⟨y5, rfl, sm⟩ ⟨rfl, rfl⟩
      refine ⟨_, rfl, _, _, rfl, rfl, .inl ⟨by decide, by decide⟩, _, rfl, _, _, rfl, rfl, .inl ⟨by decide, by decide⟩, by show 2 ≤ sizeLine; decide, fun p np => ⟨p, _, rfl, .of upd_same, rfl, _, _, rfl, _, _, rfl, rfl, ?_⟩⟩
      have s2 := same_upd (o := HO.tup [.int (2 * ((idx * 2 ^ i : Nat) : Int)), .int (2 * ((2 ^ i : Nat) : Int))]) np
      have e1 : (2 * ((idx * 2 ^ i : Nat) : Int)) = ((idx * 2 ^ (i + 1) : Nat) : Int) := by
        rw [Nat.pow_succ, ← Nat.mul_assoc]; omega
      have e2 : (2 * ((2 ^ i : Nat) : Int)) = ((2 ^ (i + 1) : Nat) : Int) := by
        rw [Nat.pow_succ]; omega
      refine ⟨some (.int (0 + (i : Nat))), ?_, sm.trans s2⟩
      show [some (V.ref a), some (V.int (lev : Nat)), some (V.int (idx : Nat)), some (V.int (2 * ((idx * 2 ^ i : Nat) : Int))), some (V.int (2 * ((2 ^ i : Nat) : Int))), some (V.int (0 + (i : Nat)))] = _
      rw [e1, e2]
    · rintro σ G ⟨y5, rfl, sm⟩
      have e : ((lev : Nat) : Int).toNat = lev := by omega
      rw [e]
      have hp : 2 ^ lev ≤ 256 := Nat.le_trans (Nat.pow_le_pow_right (by decide) hl) (by decide)
      obtain ⟨M, hM⟩ : ∃ M, M = 2 ^ lev := ⟨_, rfl⟩
      rw [← hM] at hp ⊢
      refine ⟨_, rfl, _, rfl, by omega, by omega, fun D nD => ?_⟩
      refine lcP (walk_range (lo := 0)) (fun i => V.int ((idx * M + i : Nat) : Int)) (Nat.lt_of_le_of_lt (show ((M : Nat) : Int).toNat ≤ 256 by omega) (by decide)) nD (fun _ _ => trivial) ?_ ?_
      · rintro i y G1 G2 Q' hi s2 ⟨rfl, rfl⟩ hq
        refine ⟨rfl, _, rfl, _, rfl, _, _, rfl, rfl, ?_⟩
        have e3 : (((idx * M : Nat) : Int) + (0 + (i : Nat))) = ((idx * M + i : Nat) : Int) := by omega
        dsimp only
        rw [e3]
        exact hq _ (Same.refl _)
      · intro G1 s2 hD
        have e4 : (((M : Nat) : Int).toNat) = M := by omega
        rw [e4] at hD
        refine q G1 D (sm.trans s2) (sm.free nD) (hD.trans ?_)
        unfold nN benL
        rw [← hM, List.map_map]
        rfl
end
end L2.My
end
section
set_option Elab.async false
set_option linter.all false
set_option maxRecDepth 100000
set_option maxHeartbeats 4000000
/-! What is drawn is a tree. -/
namespace L2.My
open PySem PySem.Spec PyProof.Rows
structure RowOk (h : Nat) (ls : List Lf) (n : Nd) : Prop where
  l1 : 1 ≤ n.1.1
  lh : n.1.1 ≤ h
  at' : n.1.2 < 2 ^ (h - n.1.1)
  k0 : 0 ≤ n.2.1
  k1 : n.2.1 ≤ maxI
  pw : n.2.2.Pairwise (· < ·)
  le : n.2.2.length ≤ 256
  as : ∀ j ∈ n.2.2, j / 2 ^ n.1.1 = n.1.2 ∧ ∃ z, ls[j]? = some (some z)
def nI2 (n : Nd) : List Int := [((n.1.1 : Nat) : Int), ((n.1.2 : Nat) : Int)]
structure DrT (h : Nat) (ls : List Lf) (ns : List Nd) : Prop where
  h8 : h ≤ 8
  ll : ls.length = 2 ^ h
  gl : ∀ l ∈ ls, GLf l
  nd : ((ls.filterMap id).map (·.1)).Nodup
  gn : ∀ n ∈ ns, RowOk h ls n
  asc : ascBy HT.lexLt (ns.map nI2) = true
  nl : ns.length ≤ 1152
theorem pow8 {h : Nat} (hh : h ≤ 8) : 2 ^ h ≤ 256 := Nat.le_trans (Nat.pow_le_pow_right (by decide) hh) (by decide)
theorem DrT.l256 {h : Nat} {ls : List Lf} {ns : List Nd} (d : DrT h ls ns) : ls.length ≤ 256 := by
  rw [d.ll]; exact pow8 d.h8
theorem lf_non {H : Hp} {v : V} {l : Lf} (h : LfAt H v l) : notNon v = l.isSome := by
  cases l with
  | none => cases h; rfl
  | some p => obtain ⟨a, rfl, _⟩ := h; rfl
theorem lf_list {H : Hp} {vs : List V} {ls : List Lf} (h : Paired (LfAt H) vs ls) (hg : ∀ l ∈ ls, GLf l) : (vs.filter notNon).all (memB H) = true ∧ (vs.filter notNon).map (nameV H) = (ls.filterMap id).map (·.1) := by
  induction h with
  | nil => exact ⟨rfl, rfl⟩
  | @cons v l vs ls r t ih =>
    obtain ⟨i1, i2⟩ := ih fun x hx => hg x (List.mem_cons_of_mem _ hx)
    cases l with
    | none => cases r; exact ⟨i1, i2⟩
    | some p =>
      obtain ⟨z, i⟩ := p
      obtain ⟨a, rfl, ha⟩ := r
      obtain ⟨g1, g2, _⟩ := hg _ List.mem_cons_self z i rfl
      have e1 : memB H (.ref a) = true := by
        rw [memB_at (tupOf_at ha)]
        show (wordB z && decide (0 ≤ i)) = true
        rw [g1, decide_eq_true g2]
        rfl
      have e2 : nameV H (.ref a) = z := by
        unfold nameV
        rw [tupOf_at ha]
      refine ⟨?_, ?_⟩
      · show (memB H (.ref a) && (vs.filter notNon).all (memB H)) = true
        rw [e1, i1]; rfl
      · show nameV H (.ref a) :: (vs.filter notNon).map (nameV H) = z :: (ls.filterMap id).map (·.1)
        rw [e2, i2]
theorem leaves_ok {H : Hp} {a : Addr} {h : Nat} {ls : List Lf} {ns : List Nd} (hL : LvsAt H a ls) (d : DrT h ls ns) : leavesB H h (.ref a) = true := by
  obtain ⟨vs, ha, hp⟩ := hL
  obtain ⟨e1, e2⟩ := lf_list hp d.gl
  rw [leavesB_at (tupOf_at ha), e1, e2, decide_eq_true d.nd, decide_eq_true (show vs.length = 2 ^ h by rw [Paired.len hp, d.ll])]
  rfl
theorem asc_pw : ∀ {l : List Nat}, l.Pairwise (· < ·) → ascBy ltI (l.map fun (j : Nat) => (j : Int)) = true
  | [], _ => rfl
  | [_], _ => rfl
  | x :: y :: r, h => by
    have h1 := List.rel_of_pairwise_cons h (List.mem_cons_self (a := y) (l := r))
    show (decide ((x : Int) < (y : Int)) && ascBy ltI ((y :: r).map fun (j : Nat) => (j : Int))) = true
    rw [asc_pw (List.Pairwise.of_cons h), decide_eq_true (by omega)]
    rfl
theorem row_ok {H : Hp} {v : V} {n : Nd} {h : Nat} {vs : List V} {ls : List Lf} (hn : NdAt H v n) (r : RowOk h ls n) (hp : Paired (LfAt H) vs ls) : keptB H h vs v = true ∧ rowI H v = nI2 n := by
  obtain ⟨a, na, ca, rfl, h1, h2, h3⟩ := hn
  have t2 := tupOf_at h2
  have t3 := tupOf_at h3
  refine ⟨?_, ?_⟩
  · have e1 : levV H (.ref na) = n.1.1 := by unfold levV; rw [t2]; rfl
    have e2 : atV H (.ref na) = n.1.2 := by unfold atV; rw [t2]; rfl
    have e3 : nodeB H h (.ref na) = true := by
      unfold nodeB
      rw [t2]
      show (decide (0 ≤ ((n.1.1 : Nat) : Int) ∧ ((n.1.1 : Nat) : Int) < (h : Int) + 1) && decide (0 ≤ ((n.1.2 : Nat) : Int) ∧ ((n.1.2 : Nat) : Int) < (2 : Int) ^ (h - ((n.1.1 : Nat) : Int).toNat))) = true
      have c1 := r.lh
      have c2 := r.at'
      have e : ((2 : Int) ^ (h - ((n.1.1 : Nat) : Int).toNat)) = ((2 ^ (h - n.1.1) : Nat) : Int) := by
        rw [Int.toNat_natCast]; push_cast; rfl
      rw [e, decide_eq_true (by omega), decide_eq_true ⟨by omega, Int.ofNat_lt.mpr c2⟩]
      rfl
    rw [keptB_at (tupOf_at h1), e1, e2, e3, decide_eq_true (show n.1.1 ≠ 0 by have := r.l1; omega), asideB_at t3]
    have e4 : numV (.int n.2.1) = true := decide_eq_true r.k0
    have e5 : (nN n.2.2).all (belowV (vs.length : Int)) = true := by
      unfold nN
      rw [List.all_map, List.all_eq_true]
      intro j hj
      obtain ⟨_, z, hz⟩ := r.as j hj
      have := (List.getElem?_eq_some_iff.mp hz).1
      have := Paired.len hp
      exact decide_eq_true (show (0 : Int) ≤ (j : Nat) ∧ ((j : Nat) : Int) < (vs.length : Int) by omega)
    have e6 : (nN n.2.2).map intV = n.2.2.map fun (j : Nat) => (j : Int) := by
      unfold nN
      rw [List.map_map]
      rfl
    have e7 : ((nN n.2.2).all fun x => decide (iV x / 2 ^ n.1.1 = n.1.2) && notNon (vs.getD (iV x) .non)) = true := by
      unfold nN
      rw [List.all_map, List.all_eq_true]
      intro j hj
      obtain ⟨c, z, hz⟩ := r.as j hj
      obtain ⟨v, hv, hl⟩ := Paired.at hp hz
      show (decide (((j : Nat) : Int).toNat / 2 ^ n.1.1 = n.1.2) && notNon (vs.getD ((j : Nat) : Int).toNat .non)) = true
      rw [Int.toNat_natCast, decide_eq_true c, List.getD_eq_getElem?_getD, hv]
      exact lf_non hl
    rw [e4, e5, e6, asc_pw r.pw, e7]
    rfl
  · unfold rowI
    rw [tupOf_at h1]
    show nodI H (.ref na) = _
    unfold nodI
    rw [t2]
    rfl
theorem rows_ok {H : Hp} {ws : List V} {ns : List Nd} {h : Nat} {vs : List V} {ls : List Lf} (hn : Paired (NdAt H) ws ns) (r : ∀ n ∈ ns, RowOk h ls n) (hp : Paired (LfAt H) vs ls) : ws.all (keptB H h vs) = true ∧ ws.map (rowI H) = ns.map nI2 := by
  induction hn with
  | nil => exact ⟨rfl, rfl⟩
  | @cons w n ws ns q t ih =>
    obtain ⟨i1, i2⟩ := ih fun x hx => r x (List.mem_cons_of_mem _ hx)
    obtain ⟨j1, j2⟩ := row_ok q (r n List.mem_cons_self) hp
    exact ⟨by rw [List.all_cons, j1, i1]; rfl, by rw [List.map_cons, List.map_cons, j2, i2]⟩
theorem drawn_ok {H : Hp} {la na : Addr} {h : Nat} {ls : List Lf} {ns : List Nd} (hL : LvsAt H la ls) (hN : NdsAt H na ns) (d : DrT h ls ns) : badT H (.int (h : Nat)) (.ref la) (.ref na) = none := by
  have e1 : belowV 9 (.int (h : Nat)) = true := decide_eq_true (show (0 : Int) ≤ (h : Nat) ∧ ((h : Nat) : Int) < 9 by have := d.h8; omega)
  have e2 : iV (.int (h : Nat)) = h := Int.toNat_natCast h
  have e3 := leaves_ok hL d
  obtain ⟨vs, ha, hp⟩ := hL
  obtain ⟨ws, hb, hq⟩ := hN
  obtain ⟨r1, r2⟩ := rows_ok hq d.gn hp
  have e4 : nodesB H h vs (.ref na) = true := by
    rw [nodesB_at (tupOf_at hb), r1, r2, d.asc]
    rfl
  unfold badT
  rw [e1, e2, e3, tupOf_at ha, Option.getD_some, e4]
  rfl
/-! ### and made of things -/
section
variable {b : Addr} {H : Hp}
theorem thg_lf {v : V} {l : Lf} (n : NoTup H b) (h : LfAt H v l) (g : GLf l) : Thg b H v := by
  cases l with
  | none => cases h; exact .non
  | some p =>
    obtain ⟨z, i⟩ := p
    obtain ⟨a, rfl, ha⟩ := h
    obtain ⟨g1, g2, g3⟩ := g z i rfl
    refine .tup ha (n.ne ha) (by show 2 ≤ 5000; decide) fun x hx => ?_
    rcases List.mem_cons.mp hx with rfl | hx
    · exact .str _ (Nat.le_trans (word_low g1).1 (by decide))
    · rw [List.mem_singleton.mp hx]; exact .int _ g3
theorem thg_lvs {a : Addr} {ls : List Lf} (n : NoTup H b) (h : LvsAt H a ls) (g : ∀ l ∈ ls, GLf l) (hl : ls.length ≤ 5000) : Thg b H (.ref a) := by
  obtain ⟨vs, ha, hp⟩ := h
  refine .tup ha (n.ne ha) (by rw [Paired.len hp]; exact hl) fun x hx => ?_
  obtain ⟨i, hi⟩ := List.getElem?_of_mem hx
  obtain ⟨l, h1, h2⟩ := Paired.at' hp hi
  exact thg_lf n h2 (g l (List.mem_of_getElem? h1))
theorem thg_nats {a : Addr} {js : List Nat} (n : NoTup H b) (h : H a = some (.tup (nN js))) (hl : js.length ≤ 5000) (hj : ∀ j ∈ js, j < 256) : Thg b H (.ref a) := by
  refine .tup h (n.ne h) (by unfold nN; rw [List.length_map]; exact hl) fun x hx => ?_
  obtain ⟨j, h1, rfl⟩ := List.mem_map.mp hx
  refine .int _ ?_
  have := hj j h1
  have e : (256 : Int) ≤ maxI := by decide
  omega
theorem thg_pair {a : Addr} {i j : Nat} (n : NoTup H b) (h : H a = some (.tup [.int (i : Nat), .int (j : Nat)])) (hi : i ≤ 1000) (hj : j ≤ 1000) : Thg b H (.ref a) := by
  have e : (1000 : Int) ≤ maxI := by decide
  refine .tup h (n.ne h) (by show 2 ≤ 5000; decide) fun x hx => ?_
  rcases List.mem_cons.mp hx with rfl | hx
  · exact .int _ (by omega)
  · rw [List.mem_singleton.mp hx]; exact .int _ (by omega)
theorem RowOk.b128 {h : Nat} {ls : List Lf} {n : Nd} (r : RowOk h ls n) (hh : h ≤ 8) : n.1.2 < 128 := by
  have h1 := r.at'
  have h2 : 2 ^ (h - n.1.1) ≤ 2 ^ 7 := Nat.pow_le_pow_right (by decide) (by have := r.l1; omega)
  have h3 : (2 : Nat) ^ 7 = 128 := by decide
  omega
theorem thg_nd {v : V} {nd : Nd} {h : Nat} {ls : List Lf} (n : NoTup H b) (hv : NdAt H v nd) (r : RowOk h ls nd) (hh : h ≤ 8) (hl : ls.length ≤ 256) : Thg b H v := by
  obtain ⟨a, na, ca, rfl, h1, h2, h3⟩ := hv
  refine .tup h1 (n.ne h1) (by show 3 ≤ 5000; decide) fun x hx => ?_
  rcases List.mem_cons.mp hx with rfl | hx
  · exact thg_pair n h2 (by have := r.lh; omega) (by have := r.b128 hh; omega)
  · rcases List.mem_cons.mp hx with rfl | hx
    · exact .int _ r.k1
    · rw [List.mem_singleton.mp hx]
      refine thg_nats n h3 (Nat.le_trans r.le (by decide)) fun j hj => ?_
      obtain ⟨_, z, hz⟩ := r.as j hj
      have := (List.getElem?_eq_some_iff.mp hz).1
      omega
theorem thg_nds {a : Addr} {ns : List Nd} {h : Nat} {ls : List Lf} (n : NoTup H b) (hN : NdsAt H a ns) (d : DrT h ls ns) : Thg b H (.ref a) := by
  obtain ⟨ws, ha, hp⟩ := hN
  refine .tup ha (n.ne ha) (by rw [Paired.len hp]; exact Nat.le_trans d.nl (by decide)) fun x hx => ?_
  obtain ⟨i, hi⟩ := List.getElem?_of_mem hx
  obtain ⟨l, h1, h2⟩ := Paired.at' hp hi
  exact thg_nd n h2 (d.gn l (List.mem_of_getElem? h1)) d.h8 d.l256
end
end L2.My
end
section
set_option Elab.async false
set_option linter.all false
set_option maxRecDepth 100000
set_option maxHeartbeats 4000000
/-! A tree is drawn. -/
namespace L2.My
open PySem PySem.Spec PyProof.Rows
abbrev sTr : Stmt := top 37
abbrev nTr : List Str := ["box", "most", "height", "leaves", "names", "leaf", "name", "nodes", "many", "level", "index", "beneath", "aside"]
theorem can_strs : ∀ zs : List Str, (∀ z ∈ zs, wordB z = true) → PyData.canLayAll0 (zs.map PyData.str) = true
  | [], _ => rfl
  | z :: r, h => by
    rw [List.map_cons, PyData.canLayAll0, can_strs r fun y hy => h y (List.mem_cons_of_mem _ hy), (Nice.str (word_low (h z List.mem_cons_self)).2).cl]
    rfl
theorem dep_strs : ∀ zs : List Str, PyData.depthAll (zs.map PyData.str) ≤ 1
  | [] => by decide
  | z :: r => by
    have := dep_strs r
    simp only [List.map_cons, PyData.depthAll, PyData.depth]
    omega
theorem shaped_strs (zs : List Str) (h : ∀ z ∈ zs, wordB z = true) : SeqAt.shaped (.list (zs.map PyData.str)) = true := by
  have h1 : PyData.canLay0 (.list (zs.map PyData.str)) = true := by rw [PyData.canLay0]; exact can_strs zs h
  have h2 := dep_strs zs
  unfold SeqAt.shaped
  rw [h1, Bool.true_and]
  refine decide_eq_true ?_
  simp only [PyData.depth]
  omega
theorem shaped_str {z : Str} (h : wordB z = true) : SeqAt.shaped (.str z) = true := by
  unfold SeqAt.shaped
  rw [(Nice.str (word_low h).2).cl, PyData.depth]
  decide
theorem dp_strs {K : PySem.W.Frag} {H : Hp} : ∀ zs : List Str, DpAll K H (zs.map V.str) (zs.map PyData.str)
  | [] => .nil
  | z :: r => .cons (.str z) (dp_strs r)
theorem any_strs (z : Str) : ∀ zs : List Str, ((zs.map PyData.str).any fun y => PyData.eqv y (.str z)) = decide (z ∈ zs)
  | [] => rfl
  | y :: r => by
    rw [List.map_cons, List.any_cons, any_strs z r, eqv_s, ← Bool.decide_or]
    refine decide_eq_decide.mpr ?_
    rw [List.mem_cons]
    exact or_congr_left ⟨Eq.symm, Eq.symm⟩
theorem rNotIn_strs {K : PySem.W.Frag} {H : Hp} {a : Addr} {z : Str} {zs : List Str} {Q : VK} (h : H a = some (.lst (zs.map V.str))) (hz : wordB z = true) (hs : ∀ y ∈ zs, wordB y = true) (q : Q (.bl (!decide (z ∈ zs))) H) : rNotInD K (.str z) (.ref a) H Q :=
  ⟨.str z, zs.map PyData.str, .str z, .lst (.of h) (dp_strs zs), shaped_str hz, shaped_strs zs hs, by rw [any_strs]; exact q⟩
theorem rIn_strs {K : PySem.W.Frag} {H : Hp} {a : Addr} {z : Str} {zs : List Str} {Q : VK} (h : H a = some (.lst (zs.map V.str))) (hz : wordB z = true) (hs : ∀ y ∈ zs, wordB y = true) (q : Q (.bl (decide (z ∈ zs))) H) : rInD K (.str z) (.ref a) H Q :=
  ⟨.str z, zs.map PyData.str, .str z, .lst (.of h) (dp_strs zs), shaped_str hz, shaped_strs zs hs, by rw [any_strs]; exact q⟩
/-- the words among leaves -/
def wds (ls : List Lf) : List Str := (ls.filterMap id).map (·.1)
theorem wds_none (ls : List Lf) : wds (ls ++ [none]) = wds ls := by
  unfold wds
  rw [List.filterMap_append]
  simp
theorem wds_some (ls : List Lf) (p : Str × Int) : wds (ls ++ [some p]) = wds ls ++ [p.1] := by
  unfold wds
  rw [List.filterMap_append]
  simp
theorem wds_word {ls : List Lf} (h : ∀ l ∈ ls, GLf l) : ∀ z ∈ wds ls, wordB z = true := fun z hz => by
  unfold wds at hz
  obtain ⟨p, hp, rfl⟩ := List.mem_map.mp hz
  obtain ⟨l, hl, e⟩ := List.mem_filterMap.mp hp
  exact (h l hl p.1 p.2 e).1
/-- while leaves are drawn -/
structure LvI (b g Lv Nm : Addr) (H G : Hp) (i : Nat) (ls : List Lf) : Prop where
  bl : BL [b] H G
  hb : BoxAt G b g
  vs : ∃ vs, G Lv = some (.lst vs) ∧ Paired (LfAt G) vs ls
  nm : G Nm = some (.lst ((wds ls).map V.str))
  len : ls.length = i
  gl : ∀ l ∈ ls, GLf l
  nd : (wds ls).Nodup
section
variable {b g Lv Nm : Addr} {H G G' : Hp} {i : Nat} {ls : List Lf}
theorem LvI.step (h : LvI b g Lv Nm H G i ls) (s : BL [b] G G') (hb : BoxAt G' b g) (n1 : Lv ≠ b) (n2 : Nm ≠ b) : LvI b g Lv Nm H G' i ls := by
  obtain ⟨vs, e1, e2⟩ := h.vs
  exact ⟨h.bl.trans s, hb, ⟨vs, s _ _ (by simpa using n1) e1, Paired.mapP e2 fun _ _ r => r.tk (h.hb.tk s)⟩, s _ _ (by simpa using n2) h.nm, h.len, h.gl, h.nd⟩
theorem LvI.addN (h : LvI b g Lv Nm H G i ls) (hLv : H Lv = none) (n1 : Lv ≠ b) (n2 : Lv ≠ g) (n3 : Nm ≠ Lv) {vs : List V} (e1 : G Lv = some (.lst vs)) (e2 : Paired (LfAt G) vs ls) : LvI b g Lv Nm H (upd G Lv (.lst (vs ++ [.non]))) (i + 1) (ls ++ [none]) := by
  have tk : TK G (upd G Lv (.lst (vs ++ [.non]))) := .upd e1 (fun _ e => by cases e)
  refine ⟨h.bl.put hLv, h.hb.put n1 n2, ⟨_, upd_same, Paired.snoc (Paired.mapP e2 fun _ _ r => r.tk tk) rfl⟩, ?_, by rw [List.length_append, h.len]; rfl, fun l hl => ?_, by rw [wds_none]; exact h.nd⟩
  · rw [upd_ne n3, wds_none]; exact h.nm
  · rcases List.mem_append.mp hl with z | z
    · exact h.gl l z
    · rw [List.mem_singleton.mp z]; intro z i e; cases e
theorem LvI.addS (hbl : BL [b] H G) (hb : BoxAt G b g) (hLv : H Lv = none) (n1 : Lv ≠ b) (n2 : Lv ≠ g) (n3 : Nm ≠ Lv) {vs : List V} (e1 : G Lv = some (.lst vs)) (e2 : Paired (LfAt G) vs ls) {z : Str} {r : Int} {p : Addr} (hN : G Nm = some (.lst ((wds ls).map V.str ++ [.str z]))) (hl : ls.length = i) (gl : ∀ l ∈ ls, GLf l) (nd : (wds ls).Nodup) (hz : z ∉ wds ls) (hw : wordB z = true) (r0 : 0 ≤ r) (r1 : r ≤ maxI) (hp : G p = some (.tup [.str z, .int r])) :
    LvI b g Lv Nm H (upd G Lv (.lst (vs ++ [.ref p]))) (i + 1) (ls ++ [some (z, r)]) := by
  have tk : TK G (upd G Lv (.lst (vs ++ [.ref p]))) := .upd e1 (fun _ e => by cases e)
  refine ⟨hbl.put hLv, hb.put n1 n2, ⟨_, upd_same, Paired.snoc (Paired.mapP e2 fun _ _ r => r.tk tk) ⟨p, rfl, tk _ _ hp⟩⟩, ?_, by rw [List.length_append, hl]; rfl, fun l hl => ?_, ?_⟩
  · rw [upd_ne n3, wds_some, List.map_append]; exact hN
  · rcases List.mem_append.mp hl with z | z
    · exact gl l z
    · rw [List.mem_singleton.mp z]; intro z i e; cases e; exact ⟨hw, r0, r1⟩
  · rw [wds_some]; exact nodup_snoc.mpr ⟨nd, hz⟩
end
section
variable {P : Program} {w : World} {K : PySem.W.Frag} {mg : Str → Option Value} {base : Heap}
/-- while nodes are drawn -/
structure NdI (b g Lv Nl : Addr) (H G : Hp) (h : Nat) (ls : List Lf) (ns : List Nd) (lev at' : Nat) : Prop where
  bl : BL [b] H G
  hb : BoxAt G b g
  vs : ∃ vs, G Lv = some (.lst vs) ∧ Paired (LfAt G) vs ls
  ws : ∃ ws, G Nl = some (.lst ws) ∧ Paired (NdAt G) ws ns
  gn : ∀ n ∈ ns, RowOk h ls n
  asc : ascBy HT.lexLt (ns.map nI2) = true
  lt : ∀ n ∈ ns, n.1.1 < lev ∨ (n.1.1 = lev ∧ n.1.2 < at')
  nl : ns.length ≤ (lev - 1) * 128 + at'
theorem NdI.step {b g Lv Nl : Addr} {H G G' : Hp} {h lev at' : Nat} {ls : List Lf} {ns : List Nd} (x : NdI b g Lv Nl H G h ls ns lev at') (s : BL [b] G G') (hb : BoxAt G' b g) (n1 : Lv ≠ b) (n2 : Nl ≠ b) : NdI b g Lv Nl H G' h ls ns lev at' := by
  obtain ⟨vs, e1, e2⟩ := x.vs
  obtain ⟨ws, f1, f2⟩ := x.ws
  have tk := x.hb.tk s
  exact ⟨x.bl.trans s, hb, ⟨vs, s _ _ (by simpa using n1) e1, Paired.mapP e2 fun _ _ r => r.tk tk⟩, ⟨ws, s _ _ (by simpa using n2) f1, Paired.mapP f2 fun _ _ r => r.tk tk⟩, x.gn, x.asc, x.lt, x.nl⟩
theorem asc_snoc {α : Type} {lt : α → α → Bool} {x : α} : ∀ {l : List α}, (∀ y ∈ l, lt y x = true) → ascBy lt l = true → ascBy lt (l ++ [x]) = true
  | [], _, _ => rfl
  | [y], h, _ => by
    show (lt y x && true) = true
    rw [h y List.mem_cons_self]; rfl
  | y :: z :: r, h, e => by
    obtain ⟨e1, e2⟩ := Bool.and_eq_true_iff.mp (show (lt y z && ascBy lt (z :: r)) = true from e)
    show (lt y z && ascBy lt ((z :: r) ++ [x])) = true
    rw [e1, asc_snoc (fun a ha => h a (List.mem_cons_of_mem _ ha)) e2]; rfl
theorem NdI.weak {b g Lv Nl : Addr} {H G : Hp} {h lev at' : Nat} {ls : List Lf} {ns : List Nd} (x : NdI b g Lv Nl H G h ls ns lev at') : NdI b g Lv Nl H G h ls ns lev (at' + 1) :=
  ⟨x.bl, x.hb, x.vs, x.ws, x.gn, x.asc, fun n hn => (x.lt n hn).imp_right fun e => ⟨e.1, by omega⟩, by have := x.nl; omega⟩
theorem NdI.next {b g Lv Nl : Addr} {H G : Hp} {h lev at' : Nat} {ls : List Lf} {ns : List Nd} (x : NdI b g Lv Nl H G h ls ns lev at') (h1 : 1 ≤ lev) (ha : at' ≤ 128) : NdI b g Lv Nl H G h ls ns (lev + 1) 0 :=
  ⟨x.bl, x.hb, x.vs, x.ws, x.gn, x.asc, fun n hn => .inl (by rcases x.lt n hn with e | e <;> omega), by have := x.nl; omega⟩
theorem NdI.add {b g Lv Nl : Addr} {H G : Hp} {h lev at' : Nat} {ls : List Lf} {ns : List Nd} (x : NdI b g Lv Nl H G h ls ns lev at') (hNl : H Nl = none) (n1 : Nl ≠ b) (n2 : Nl ≠ g) (n3 : Lv ≠ Nl) {ws : List V} (f1 : G Nl = some (.lst ws)) (f2 : Paired (NdAt G) ws ns) {v : V} {n : Nd} (hv : NdAt G v n) (hr : RowOk h ls n) (hl : n.1.1 = lev) (ha : n.1.2 = at') :
    NdI b g Lv Nl H (upd G Nl (.lst (ws ++ [v]))) h ls (ns ++ [n]) lev (at' + 1) := by
  have tk : TK G (upd G Nl (.lst (ws ++ [v]))) := .upd f1 (fun _ e => by cases e)
  obtain ⟨vs, e1, e2⟩ := x.vs
  refine ⟨x.bl.put hNl, x.hb.put n1 n2, ⟨vs, by rw [upd_ne n3]; exact e1, Paired.mapP e2 fun _ _ r => r.tk tk⟩, ⟨_, upd_same, Paired.snoc (Paired.mapP f2 fun _ _ r => r.tk tk) (hv.tk tk)⟩, fun m hm => ?_, ?_, fun m hm => ?_, ?_⟩
  · rcases List.mem_append.mp hm with z | z
    · exact x.gn m z
    · rw [List.mem_singleton.mp z]; exact hr
  · rw [List.map_append]
    refine asc_snoc (fun y hy => ?_) x.asc
    obtain ⟨m, hm, rfl⟩ := List.mem_map.mp hy
    show HT.lexLt [((m.1.1 : Nat) : Int), ((m.1.2 : Nat) : Int)] [((n.1.1 : Nat) : Int), ((n.1.2 : Nat) : Int)] = true
    rw [HT.lexLt_cons]
    rcases x.lt m hm with e | ⟨e, e'⟩
    · rw [if_neg (by omega), decide_eq_true_eq]; omega
    · rw [if_pos (by omega), HT.lexLt_cons, if_neg (by omega), decide_eq_true_eq]; omega
  · rcases List.mem_append.mp hm with z | z
    · exact (x.lt m z).imp_right fun e => ⟨e.1, by omega⟩
    · rw [List.mem_singleton.mp z]; exact .inr ⟨hl, by omega⟩
  · have := x.nl
    rw [List.length_append, List.length_singleton]
    omega
theorem ben_pw (lev idx : Nat) : (benL lev idx).Pairwise (· < ·) := by
  unfold benL
  rw [List.pairwise_map]
  exact List.pairwise_lt_range.imp fun h => by omega
theorem ben_mem {lev idx j : Nat} (h : j ∈ benL lev idx) : j / 2 ^ lev = idx ∧ ∃ k, k < 2 ^ lev ∧ j = idx * 2 ^ lev + k := by
  obtain ⟨k, hk, rfl⟩ := List.mem_map.mp h
  have hk := List.mem_range.mp hk
  refine ⟨?_, k, hk, rfl⟩
  rw [Nat.mul_comm, Nat.mul_add_div (by omega), Nat.div_eq_of_lt hk]
  rfl
theorem ben_lt {h lev idx j : Nat} (hj : j ∈ benL lev idx) (hi : idx < 2 ^ (h - lev)) (hl : lev ≤ h) : j < 2 ^ h := by
  obtain ⟨_, k, hk, rfl⟩ := ben_mem hj
  have e : 2 ^ h = 2 ^ (h - lev) * 2 ^ lev := by rw [← Nat.pow_add]; congr 1; omega
  rw [e]
  have h2 : (idx + 1) * 2 ^ lev ≤ 2 ^ (h - lev) * 2 ^ lev := Nat.mul_le_mul_right _ hi
  rw [Nat.add_mul, Nat.one_mul] at h2
  omega
theorem sub_snoc {l js : List Nat} {q c : Nat} (h : js.Sublist (l.take q)) (e : l[q]? = some c) : (js ++ [c]).Sublist (l.take (q + 1)) := by
  rw [take_snoc e]; exact h.append (List.Sublist.refl _)
theorem sub_skip {l js : List Nat} {q c : Nat} (h : js.Sublist (l.take q)) (e : l[q]? = some c) : js.Sublist (l.take (q + 1)) := by
  rw [take_snoc e]; exact h.trans (List.sublist_append_left _ _)
theorem ben_len (lev idx : Nat) : (benL lev idx).length = 2 ^ lev := by unfold benL; rw [List.length_map, List.length_range]
theorem nN_at {l : List Nat} {i : Nat} {x : V} (h : (nN l)[i]? = some x) : ∃ j : Nat, l[i]? = some j ∧ x = .int (j : Nat) := by
  unfold nN at h
  rw [List.getElem?_map] at h
  cases e : l[i]? with
  | none => rw [e] at h; cases h
  | some j => rw [e] at h; exact ⟨j, rfl, (Option.some.inj h).symm⟩
theorem nN_len (l : List Nat) : (nN l).length = l.length := by unfold nN; rw [List.length_map]
def spTr : Sp := fun vs H Q _ => ∃ (b g : Addr) (m : Nat), vs = [.ref b, .int (m : Nat)] ∧ BoxAt H b g ∧ m ≤ 8 ∧ ∀ H' p la na h ls ns, BL [b] H H' → BoxAt H' b g → H p = none → H' p = some (.lst [.int (h : Nat), .ref la, .ref na]) → LvsAt H' la ls → NdsAt H' na ns → DrT h ls ns → Q (.ref p) H'
theorem scTr2 : FnScope nTr ["box", "most"] (defScope sTr) := ⟨rfl, rfl, rfl, by decide +kernel, rfl, by decide +kernel, by decide +kernel⟩
theorem ok_ltree {f : Addr} {fd : FuncData} {k : Nat} (F : Fun K "_law_tree" "_law_tree" sTr f fd) (T : Tx mg) (cD : Cal P w K mg base (k + 4) "_law_draw" ["box", "menu"] spDraw) (cB : Cal P w K mg base (k + 4) "_law_beneath" ["node"] spBen) (cN : Cal P w K mg base (k + 4) "_law_name" ["box"] spName) (cL : Cal P w K mg base (k + 4) "_law_lock" ["box"] spLock) : FnOk P w K mg base CX0 (k + 5) f fd ["box", "most"] spTr := by
  refine F.ok scTr2 (fun vs H Q E h => ?_) (fun cdv A outer s H vs Q E hr h => ?_)
  · obtain ⟨b, g, m, rfl, _⟩ := h
    rfl
  · obtain ⟨b, g, m, rfl, hB, hm, q⟩ := h
    refine ⟨_, (pss_cons (ps_set (i := 2) scTr2.nd rfl (Or.inl rfl) (pe_c cD hr (by omega) (by rfl) (pa_cons (pv 0) (pa_cons (pe_op op_add (pv 1) pe_int) pa_nil)))) (pss_cons (ps_set (i := 3) scTr2.nd rfl (Or.inr rfl) (pe_lst pa_nil)) (pss_cons (ps_set (i := 4) scTr2.nd rfl (Or.inl rfl) (pe_lst pa_nil)) (pss_cons (ps_for PassesOwn.never rfl (pi_list (pe_c cB hr (by omega) (by rfl) (pa_cons (pe_tup (pa_cons (pv 2) (pa_cons pe_int pa_nil))) pa_nil))) (pg_name (i := 5) scTr2.nd rfl (Or.inl rfl)) (pss_cons (ps_set (i := 6) scTr2.nd rfl (Or.inl rfl) (pe_c cN hr (by omega) (by rfl) (pa_cons (pv 0) pa_nil))) (pss_one (ps_if (pt_and (pt_cmpR op_gt (pe_c cD hr (by omega) (by rfl) (pa_cons (pv 0) (pa_cons pe_int pa_nil))) pe_int (nomark _)) (pw_and1 (pt_cmpR (op_notInD (u65 hr)) (pv 6) (pv 4) rfl))) (pss_cons (ps_expr (pe_bm PySem.F.plainAttrs_list PySem.F.slot_list_append PySem.F.type_list_append mt_append (pv 4) (pa_cons (pv 6) pa_nil))) (pss_one (ps_expr (pe_bm PySem.F.plainAttrs_list PySem.F.slot_list_append PySem.F.type_list_append mt_append (pv 3) (pa_cons (pe_tup (pa_cons (pv 6) (pa_cons (pe_c cL hr (by omega) (by rfl) (pa_cons (pv 0) pa_nil)) pa_nil))) pa_nil))))) (pss_one (ps_expr (pe_bm PySem.F.plainAttrs_list PySem.F.slot_list_append PySem.F.type_list_append mt_append (pv 3) (pa_cons pe_non pa_nil)))))))) (pss_cons (ps_set (i := 7) scTr2.nd rfl (Or.inl rfl) (pe_lst pa_nil)) (pss_cons (ps_set (i := 8) scTr2.nd rfl (Or.inl rfl) (pe_callB call_len_seq (by rfl) T.len_ PySem.boot_len (pa_cons (pv 3) pa_nil))) (pss_cons (ps_for PassesOwn.never rfl (pi_range2 (by rfl) T.range_ (pa_cons pe_int (pa_cons (pe_op op_add (pv 2) pe_int) pa_nil))) (pg_name (i := 9) scTr2.nd rfl (Or.inl rfl)) (pss_cons (ps_set (i := 8) scTr2.nd rfl (Or.inl rfl) (pe_op op_fdiv (pv 8) pe_int)) (pss_one (ps_for PassesOwn.never rfl (pi_range1 (by rfl) T.range_ (pa_cons (pv 8) pa_nil)) (pg_name (i := 10) scTr2.nd rfl (Or.inl rfl)) (pss_one (ps_if (pt_cmpR op_eq (pe_c cD hr (by omega) (by rfl) (pa_cons (pv 0) (pa_cons pe_int pa_nil))) pe_int (nomark _)) (pss_cons (ps_setLc (own := [("leaf", 5)]) (i := 11) (g := gName 5) (te := tVar 5) (tt := tTest (tOp rNotN (tOp (rIxL K) (tVar 3) (tVar 5)) (tC .non))) rfl scTr2.nd rfl rfl (sw_true rfl rfl rfl (by decide +kernel)) (pi_list (pe_c cB hr (by omega) (by rfl) (pa_cons (pe_tup (pa_cons (pv 9) (pa_cons (pv 10) pa_nil))) pa_nil))) (blkOk_by (N := nTr) (sc := defScope sTr) (by decide +kernel)) (fun _ _ _ _ _ => pg_name (i := 5) scTr2.nd rfl (Or.inl rfl)) (fun _ _ _ _ _ => (pts_one (pt_cmpR op_notN (pe_ix ix_list (pv 3) (pv 5) (fun _ _ => rfl)) pe_non (nomark _)))) (fun _ _ _ _ _ => (pv 5))) (pss_cons (ps_set (i := 12) scTr2.nd rfl (Or.inl rfl) (pe_tupleOf (by rfl) T.tuple_ (pe_lc (own := [("leaf", 5)]) (g := gName 5) (te := tVar 5) (tt := tTest (tOp rEq (tCall spDraw [] E0 (tCons (tVar 0) (tCons (tC (.int 4)) tNil))) (tC (.int 0)))) rfl scTr2.nd (pi_list (pv 11)) (blkOk_by (N := nTr) (sc := defScope sTr) (by decide +kernel)) (fun _ _ _ _ _ => pg_name (i := 5) scTr2.nd rfl (Or.inl rfl)) (fun _ _ _ _ _ => (pts_one (pt_cmpR op_eq (pe_c cD hr (by omega) (by rfl) (pa_cons (pv 0) (pa_cons pe_int pa_nil))) pe_int (nomark _)))) (fun _ _ _ _ _ => (pv 5))))) (pss_one (ps_expr (pe_bm PySem.F.plainAttrs_list PySem.F.slot_list_append PySem.F.type_list_append mt_append (pv 7) (pa_cons (pe_tup (pa_cons (pe_tup (pa_cons (pv 9) (pa_cons (pv 10) pa_nil))) (pa_cons (pe_c cL hr (by omega) (by rfl) (pa_cons (pv 0) pa_nil)) (pa_cons (pv 12) pa_nil)))) pa_nil)))))) pss_nil)))))) (pss_one (ps_ret (pe_lst (pa_cons (pv 2) (pa_cons (pe_tupleOf (by rfl) T.tuple_ (pv 3)) (pa_cons (pe_tupleOf (by rfl) T.tuple_ (pv 7)) pa_nil))))))))))))), ?_⟩
    refine ⟨_, rfl, _, rfl, _, _, rfl, rfl, b, g, _, rfl, hB, by omega, Nat.lt_of_le_of_lt (show (((m : Nat) : Int) + 1).natAbs ≤ 9 by omega) (by decide), fun H1 r bl1 hB1 r0 r1 => ?_⟩
    obtain ⟨h, rfl⟩ : ∃ h : Nat, r = h := ⟨r.toNat, by omega⟩
    have h8 : h ≤ 8 := by omega
    refine ⟨Nat.zero_le _, fun Lv nLv => ?_⟩
    have s2 := same_upd (o := HO.lst []) nLv
    have nLb := hB1.nb nLv
    have nLg := hB1.ng nLv
    have nLH := bl1.nw nLv (by simpa using nLb)
    have hLv2 : (upd H1 Lv (.lst [])) Lv = some (.lst []) := upd_same
    have hB2 := hB1.same s2
    generalize upd H1 Lv (.lst []) = H2 at *
    refine ⟨Nat.zero_le _, fun Nm nNm => ?_⟩
    have s3 := same_upd (o := HO.lst []) nNm
    have nNb := hB2.nb nNm
    have nNg := hB2.ng nNm
    have nNL : Nm ≠ Lv := fun e => by rw [e, hLv2] at nNm; cases nNm
    have nNH := (bl1.trans (.same s2)).nw nNm (by simpa using nNb)
    have hNm3 : (upd H2 Nm (.lst [])) Nm = some (.lst []) := upd_same
    have hLv3 := s3 _ _ hLv2
    have hB3 := hB2.same s3
    generalize upd H2 Nm (.lst []) = H3 at *
    refine ⟨_, rfl, by show 2 ≤ sizeLine; decide, fun p np => ⟨p, h, 0, rfl, upd_same, h8, by decide, fun H4 lb s4 nlb hlb => ⟨lb, rfl, ⟨_, SqL.of hlb⟩, ?_⟩⟩⟩
    have s34 := (same_upd (o := HO.tup [.int (h : Nat), .int 0]) np).trans s4
    have hB4 := hB3.same s34
    have nlb3 : H3 lb = none := (same_upd (o := HO.tup [.int (h : Nat), .int 0]) np).free nlb
    have nlbL : lb ≠ Lv := fun e => by rw [e, hLv3] at nlb3; cases nlb3
    have nlbN : lb ≠ Nm := fun e => by rw [e, hNm3] at nlb3; cases nlb3
    have nlbb := hB3.nb nlb3
    have i0 : LvI b g Lv Nm H H4 0 [] := ⟨((bl1.trans (.same s2)).trans (.same s3)).trans (.same s34), hB4, ⟨[], s34 _ _ hLv3, .nil⟩, s34 _ _ hNm3, rfl, by simp, by decide⟩
    refine for_it (walk_list (xs := nN (benL h 0))) (fun i σ G => ∃ y5 y6 ls, σ = [some (.ref b), some (.int (m : Nat)), some (.int (h : Nat)), some (.ref Lv), some (.ref Nm), y5, y6, none, none, none, none, none, none] ∧ LvI b g Lv Nm H G i ls ∧ G lb = some (.lst (nN (benL h 0)))) ⟨_, _, _, rfl, i0, hlb⟩ (fun i σ G _ hG => ?_) ?_ ?_
    · obtain ⟨_, _, _, _, _, h⟩ := hG
      exact .of h
    · rintro i y σ G G' hi ⟨y5, y6, ls, rfl, I, hlb⟩ ⟨rfl, hy⟩
      rw [nN_len, ben_len] at hi
      have hp8 := pow8 h8
      refine ⟨_, rfl, b, g, rfl, I.hb, fun G1 z bl5 hB5 hz => ?_⟩
      have I1 := I.step bl5 hB5 nLb nNb
      have hlb1 := bl5 _ _ (by simpa using nlbb) hlb
      refine ⟨_, rfl, b, g, 3, rfl, hB5, by decide, by decide, fun G2 r bl6 hB6 r0 r1 => ⟨_, _, rfl, rfl, _, rfl, ?_⟩⟩
      have I2 := I1.step bl6 hB6 nLb nNb
      have hlb2 := bl6 _ _ (by simpa using nlbb) hlb1
      obtain ⟨vs, e1, e2⟩ := I2.vs
      have lvs : vs.length < sizeLine := Nat.lt_of_le_of_lt (show vs.length ≤ 256 by rw [Paired.len e2, I2.len]; omega) (by decide)
      have lnm : (wds ls).length ≤ 256 := by
        have h1 := List.length_filterMap_le (f := (id : Lf → Lf)) (l := ls)
        have h2 := I2.len
        unfold wds
        rw [List.length_map]
        omega
      refine ite2 (fun _ => ?_) (fun _ => ⟨_, rfl, .inl ⟨rfl, _, SqL.of e1⟩, Lv, _, _, rfl, rfl, e1, lvs, _, _, _, rfl, I2.addN nLH nLb nLg nNL e1 e2, by rw [upd_ne nlbL]; exact hlb2⟩)
      refine ⟨_, rfl, _, rfl, rNotIn_strs I2.nm hz (wds_word I2.gl) ⟨_, rfl, ?_⟩⟩
      refine ite2 (fun hnz => ?_) (fun _ => ⟨_, rfl, .inl ⟨rfl, _, SqL.of e1⟩, Lv, _, _, rfl, rfl, e1, lvs, _, _, _, rfl, I2.addN nLH nLb nLg nNL e1 e2, by rw [upd_ne nlbL]; exact hlb2⟩)
      have hnz : z ∉ wds ls := by simpa using hnz
      refine ⟨_, rfl, .inl ⟨rfl, _, SqL.of I2.nm⟩, _, rfl, Nm, _, _, rfl, rfl, I2.nm, by rw [List.length_map]; exact Nat.lt_of_le_of_lt lnm (by decide), ?_⟩
      have tk3 : TK G2 (upd G2 Nm (.lst ((wds ls).map V.str ++ [.str z]))) := .upd I2.nm (fun _ e => by cases e)
      have hN3 : (upd G2 Nm (.lst ((wds ls).map V.str ++ [.str z]))) Nm = some (.lst ((wds ls).map V.str ++ [.str z])) := upd_same
      have hL3 : (upd G2 Nm (.lst ((wds ls).map V.str ++ [.str z]))) Lv = some (.lst vs) := by rw [upd_ne (Ne.symm nNL)]; exact e1
      have hl3 : (upd G2 Nm (.lst ((wds ls).map V.str ++ [.str z]))) lb = some (.lst (nN (benL h 0))) := by rw [upd_ne nlbN]; exact hlb2
      have bl3 := I2.bl.put (o := .lst ((wds ls).map V.str ++ [.str z])) nNH
      have hB3' := I2.hb.put (o := .lst ((wds ls).map V.str ++ [.str z])) nNb nNg
      have e3 := Paired.mapP e2 fun _ _ r => r.tk tk3
      generalize upd G2 Nm (.lst ((wds ls).map V.str ++ [.str z])) = G3 at *
      refine ⟨_, rfl, .inl ⟨rfl, _, SqL.of hL3⟩, _, rfl, _, rfl, b, g, rfl, hB3', fun G4 r bl4 hB4' r0 r1 => ⟨by show 2 ≤ sizeLine; decide, fun p np => ?_⟩⟩
      have tk4 := hB3'.tk bl4
      have s5 := same_upd (o := HO.tup [.str z, .int r]) np
      have hp5 : (upd G4 p (.tup [.str z, .int r])) p = some (.tup [.str z, .int r]) := upd_same
      have hL5 := s5 _ _ (bl4 _ _ (by simpa using nLb) hL3)
      have hN5 := s5 _ _ (bl4 _ _ (by simpa using nNb) hN3)
      have hl5 := s5 _ _ (bl4 _ _ (by simpa using nlbb) hl3)
      have tk5 := tk4.trans (.same s5)
      exact ⟨Lv, _, _, rfl, rfl, hL5, lvs, _, _, _, rfl, LvI.addS ((bl3.trans bl4).trans (.same s5)) (hB4'.same s5) nLH nLb nLg nNL hL5 (Paired.mapP e3 fun _ _ r => r.tk tk5) hN5 I2.len I2.gl I2.nd hnz hz r0 r1 hp5, by rw [upd_ne nlbL]; exact hl5⟩
    · rintro σ G ⟨y5, y6, ls, rfl, I, hlb⟩
      rw [nN_len, ben_len] at I
      obtain ⟨vs, e1, e2⟩ := I.vs
      refine ⟨Nat.zero_le _, fun Nl nNl => ?_⟩
      have s6 := same_upd (o := HO.lst []) nNl
      have nNlb := I.hb.nb nNl
      have nNlg := I.hb.ng nNl
      have nNlH := I.bl.nw nNl (by simpa using nNlb)
      have nLN : Lv ≠ Nl := fun e => by rw [e, nNl] at e1; cases e1
      have hN6 : (upd G Nl (.lst [])) Nl = some (.lst []) := upd_same
      have D0 : NdI b g Lv Nl H (upd G Nl (.lst [])) h ls [] 1 0 := ⟨I.bl.trans (.same s6), I.hb.same s6, ⟨vs, s6 _ _ e1, Paired.mapP e2 fun _ _ r => r.tk (.same s6)⟩, ⟨[], hN6, .nil⟩, by simp, rfl, by simp, Nat.zero_le _⟩
      have hL6 := s6 _ _ e1
      have lvl : vs.length = 2 ^ h := by rw [Paired.len e2, I.len]
      generalize upd G Nl (.lst []) = G6 at *
      refine ⟨_, rfl, Lv, vs, rfl, .inl (.of hL6), ?_⟩
      rw [lvl]
      refine ⟨_, rfl, _, _, rfl, rfl, _, _, rfl, ⟨by decide, by decide, by omega, by omega⟩, ?_⟩
      refine for_it (walk_range (lo := 1)) (fun i σ G => ∃ y5 y6 y9 y10 y11 y12 ns Mi, σ = [some (.ref b), some (.int (m : Nat)), some (.int (h : Nat)), some (.ref Lv), some (.ref Nm), y5, y6, some (.ref Nl), some (.int Mi), y9, y10, y11, y12] ∧ Mi = ((2 ^ (h - i) : Nat) : Int) ∧ NdI b g Lv Nl H G h ls ns (i + 1) 0) ⟨_, _, _, _, _, _, _, _, rfl, rfl, D0⟩ (fun i σ G _ hG => trivial) ?_ ?_
      · rintro i y σ G1 G2 hi ⟨y5, y6, y9, y10, y11, y12, ns, Mi, rfl, hMi, D1⟩ ⟨rfl, hy⟩
        have hi : i < h := by omega
        obtain rfl : y = .int ((i + 1 : Nat) : Int) := hy.trans (congrArg V.int (by omega))
        obtain ⟨M, hM⟩ : ∃ M, M = 2 ^ (h - (i + 1)) := ⟨_, rfl⟩
        have hM2 : Mi = 2 * (M : Int) := by
          rw [hMi, hM, show h - i = (h - (i + 1)) + 1 by omega, Nat.pow_succ]
          omega
        have hM3 : M ≤ 128 := by
          rw [hM]
          exact Nat.le_trans (Nat.pow_le_pow_right (by decide) (show h - (i + 1) ≤ 7 by omega)) (by decide)
        have eM : Mi / 2 = ((M : Nat) : Int) := by omega
        refine ⟨_, rfl, _, _, rfl, rfl, ⟨by decide, by decide⟩, ?_⟩
        refine ⟨_, rfl, Mi / 2, rfl, by omega, by omega, ?_⟩
        refine for_it (walk_range (lo := 0)) (fun j σ G => ∃ y5 y10 y11 y12 ns, σ = [some (.ref b), some (.int (m : Nat)), some (.int (h : Nat)), some (.ref Lv), some (.ref Nm), y5, y6, some (.ref Nl), some (.int (Mi / 2)), some (.int ((i + 1 : Nat) : Int)), y10, y11, y12] ∧ NdI b g Lv Nl H G h ls ns (i + 1) j) ⟨_, _, _, _, _, rfl, D1⟩ (fun i σ G _ hG => trivial) ?_ ?_
        · rintro j y σ G3 G4 hj ⟨y5, y10, y11, y12, ns, rfl, D3⟩ ⟨rfl, hy⟩
          have hj : j < M := by omega
          obtain rfl : y = .int ((j : Nat) : Int) := hy.trans (congrArg V.int (by omega))
          refine ⟨_, rfl, b, g, 2, rfl, D3.hb, by decide, by decide, fun G5 r bl5 hB5 r0 r1 => ⟨rfl, _, rfl, ?_⟩⟩
          have D5 := D3.step bl5 hB5 nLb nNlb
          refine ite2 (fun _ => ?_) (fun _ => ⟨_, _, _, _, _, rfl, D5.weak⟩)
          refine ⟨_, rfl, _, rfl, by show 2 ≤ sizeLine; decide, fun p np => ⟨p, i + 1, j, rfl, upd_same, by omega, by omega, fun G6 l2 s6 nl2 hl2 => ⟨l2, rfl, ⟨_, SqL.of hl2⟩, fun D nD => ?_⟩⟩⟩
          have s56 := (same_upd (o := HO.tup [.int ((i + 1 : Nat) : Int), .int ((j : Nat) : Int)]) np).trans s6
          have nl25 : G5 l2 = none := (same_upd (o := HO.tup [.int ((i + 1 : Nat) : Int), .int ((j : Nat) : Int)]) np).free nl2
          have nl2b := hB5.nb nl25
          have D6 := D5.step (.same s56) (hB5.same s56) nLb nNlb
          obtain ⟨vs, e1, e2⟩ := D6.vs
          have bl8 : (benL (i + 1) j).length ≤ 256 := by rw [ben_len]; exact pow8 (by omega)
          refine lcB (walk_list (xs := nN (benL (i + 1) j))) (fun q acc => ∃ js, acc = nN js ∧ js.Sublist ((benL (i + 1) j).take q) ∧ ∀ x ∈ js, ∃ z, ls[x]? = some (some z)) (Nat.lt_of_le_of_lt (show (nN (benL (i + 1) j)).length ≤ 256 by rw [nN_len]; exact bl8) (by decide)) nD D6.hb (fun G' bl' _ => .of (bl' _ _ (by simpa using nl2b) hl2)) ⟨[], rfl, by simp, by simp⟩ ?_ ?_
          · rintro q x G7 G8 Q' N' acc hq bl7 hB7 ⟨js, rfl, hsub, hjs⟩ ⟨rfl, hx⟩ hy hn
            obtain ⟨c, hc, rfl⟩ := nN_at hx
            have hcl : c < ls.length := by
              rw [I.len]
              exact ben_lt (List.mem_of_getElem? hc) (by rw [← hM]; exact hj) (by omega)
            obtain ⟨v, hv, hl⟩ := Paired.at e2 (List.getElem?_eq_getElem hcl)
            refine ⟨rfl, _, rfl, _, rfl, Lv, vs, _, v, rfl, rfl, .of (bl7 _ _ (by simpa using nLb) e1), atI_nat hv, rfl, _, rfl, ?_⟩
            rw [nonN, lf_non hl]
            cases el : ls[c] with
            | none => exact iteF (hn ⟨js, rfl, sub_skip hsub hc, hjs⟩ _ .refl hB7)
            | some z =>
              refine iteT ⟨_, rfl, hy _ _ .refl hB7 ⟨js ++ [c], by unfold nN; rw [List.map_append]; rfl, sub_snoc hsub hc, fun x hx => ?_⟩⟩
              rcases List.mem_append.mp hx with w | w
              · exact hjs x w
              · rw [List.mem_singleton.mp w]
                exact ⟨z, by rw [List.getElem?_eq_getElem hcl, el]⟩
          · rintro G8 acc bl8 hB8 hD8 ⟨js, rfl, hsub, hjs⟩ hlen
            have nDb := D6.hb.nb nD
            have nDH := D6.bl.nw nD (by simpa using nDb)
            refine ⟨_, rfl, D, rfl, ⟨_, SqL.of hD8⟩, fun D2 nD2 => ?_⟩
            refine lcB (walk_list (xs := nN js)) (fun q acc => ∃ ks, acc = nN ks ∧ ks.Sublist (js.take q)) (Nat.lt_of_le_of_lt (show (nN js).length ≤ 256 by rw [nN_len] at hlen ⊢; rw [nN_len] at hlen; omega) (by decide)) nD2 hB8 (fun G' bl' _ => .of (bl' _ _ (by simpa using nDb) hD8)) ⟨[], rfl, by simp⟩ ?_ ?_
            · rintro q x G9 G10 Q' N' acc hq bl9 hB9 ⟨ks, rfl, hsub2⟩ ⟨rfl, hx⟩ hy hn
              obtain ⟨c, hc, rfl⟩ := nN_at hx
              refine ⟨rfl, _, rfl, b, g, 4, rfl, hB9, by decide, by decide, fun G11 r bl11 hB11 r0 r1 => ⟨rfl, _, rfl, ?_⟩⟩
              refine ite2 (fun _ => ⟨_, rfl, hy _ _ bl11 hB11 ⟨ks ++ [c], by unfold nN; rw [List.map_append]; rfl, sub_snoc hsub2 hc⟩⟩) (fun _ => hn ⟨ks, rfl, sub_skip hsub2 hc⟩ _ bl11 hB11)
            · rintro G9 acc bl9 hB9 hD9 ⟨ks, rfl, hsub2⟩ _
              refine .inl ⟨D2, _, rfl, .of hD9, fun t nt => ?_⟩
              have st := same_upd (o := HO.tup (nN ks)) nt
              have ht : (upd G9 t (.tup (nN ks))) t = some (.tup (nN ks)) := upd_same
              have D10 := D6.step ((bl8.trans bl9).trans (.same st)) (hB9.same st) nLb nNlb
              generalize upd G9 t (.tup (nN ks)) = G10 at *
              obtain ⟨ws, f1, f2⟩ := D10.ws
              refine ⟨_, rfl, .inl ⟨rfl, _, SqL.of f1⟩, _, rfl, _, rfl, by show 2 ≤ sizeLine; decide, fun p1 np1 => ?_⟩
              have s11 := same_upd (o := HO.tup [.int ((i + 1 : Nat) : Int), .int ((j : Nat) : Int)]) np1
              have hp1 : (upd G10 p1 (.tup [.int ((i + 1 : Nat) : Int), .int ((j : Nat) : Int)])) p1 = some (.tup [.int ((i + 1 : Nat) : Int), .int ((j : Nat) : Int)]) := upd_same
              have D11 := D10.step (.same s11) (D10.hb.same s11) nLb nNlb
              have ht11 := s11 _ _ ht
              refine ⟨_, rfl, b, g, rfl, D11.hb, fun G12 r bl12 hB12 r0 r1 => ⟨_, rfl, by show 3 ≤ sizeLine; decide, fun p2 np2 => ?_⟩⟩
              have tk12 := D11.hb.tk bl12
              have D12 := D11.step bl12 hB12 nLb nNlb
              have s13 := same_upd (o := HO.tup [.ref p1, .int r, .ref t]) np2
              have hp2 : (upd G12 p2 (.tup [.ref p1, .int r, .ref t])) p2 = some (.tup [.ref p1, .int r, .ref t]) := upd_same
              have D13 := D12.step (.same s13) (hB12.same s13) nLb nNlb
              obtain ⟨ws3, h1, h2⟩ := D13.ws
              have sub := hsub2.trans ((List.take_sublist _ _).trans (hsub.trans (List.take_sublist _ _)))
              refine ⟨Nl, ws3, _, rfl, rfl, h1, Nat.lt_of_le_of_lt (show ws3.length ≤ 2000 by rw [Paired.len h2]; have := D13.nl; omega) (by decide), _, _, _, _, _, rfl, D13.add (n := ((i + 1, j), (r, ks))) nNlH nNlb nNlg nLN h1 h2 ⟨p2, p1, t, rfl, hp2, s13 _ _ (tk12 _ _ hp1), s13 _ _ (tk12 _ _ ht11)⟩ ⟨by show 1 ≤ i + 1; omega, by show i + 1 ≤ h; omega, by show j < 2 ^ (h - (i + 1)); rw [← hM]; exact hj, r0, r1, (ben_pw (i + 1) j).sublist sub, ?_, fun c hc => ⟨(ben_mem (sub.subset hc)).1, hjs c (((hsub2.trans (List.take_sublist _ _)).subset hc))⟩⟩ rfl rfl⟩
              have := sub.length_le
              rw [ben_len] at this
              exact Nat.le_trans this (pow8 (by omega))
        · rintro σ G3 ⟨y5, y10, y11, y12, ns, rfl, D3⟩
          have e : (Mi / 2).toNat = M := by omega
          have D3 := e ▸ D3
          exact ⟨_, _, _, _, _, _, _, _, rfl, eM.trans (by rw [hM]), D3.next (by omega) (by omega)⟩
      · rintro σ G7 ⟨y5, y6, y9, y10, y11, y12, ns, Mi, rfl, _, D7⟩
        have en : (((h : Nat) : Int) + 1 - 1).toNat = h := by omega
        obtain ⟨vs, e1, e2⟩ := D7.vs
        obtain ⟨ws, f1, f2⟩ := D7.ws
        refine ⟨_, rfl, _, rfl, .inl ⟨Lv, vs, rfl, .of e1, fun la nla => ?_⟩⟩
        have s8 := same_upd (o := HO.tup vs) nla
        refine ⟨_, rfl, .inl ⟨Nl, ws, rfl, .of (s8 _ _ f1), fun na nna => ⟨by show 3 ≤ sizeLine; decide, fun p np => ?_⟩⟩⟩
        have s9 := same_upd (o := HO.tup ws) nna
        have s10 := same_upd (o := HO.lst [.int (h : Nat), .ref la, .ref na]) np
        have s := s8.trans (s9.trans s10)
        have tk : TK G7 _ := .same s
        have npb := ((D7.hb.same s8).same s9).nb np
        refine q _ p la na h ls ns (D7.bl.trans (.same s)) (D7.hb.same s) ((D7.bl.trans (.same (s8.trans s9))).nw np (by simpa using npb)) upd_same ⟨vs, s10 _ _ (s9 _ _ upd_same), Paired.mapP e2 fun _ _ r => r.tk tk⟩ ⟨ws, s10 _ _ upd_same, Paired.mapP f2 fun _ _ r => r.tk tk⟩ ⟨h8, I.len, I.gl, I.nd, D7.gn, D7.asc, ?_⟩
        have := D7.nl
        omega
end
end L2.My
end
section
set_option Elab.async false
set_option linter.all false
set_option maxRecDepth 100000
set_option maxHeartbeats 4000000
/-! tuple(reversed(a tuple)). -/
namespace L2.My
open PySem PySem.Spec PyProof.Rows RT
theorem rt_len : typeLookup (.type "reversed") "__len__" = pure none := by rw [typeLookup_type, builtinLookup_eq_fast]; kernel_rfl
theorem rt_hint : typeLookup (.type "reversed") "__length_hint__" = pure (some (.builtin "reversed.__length_hint__")) := by rw [typeLookup_type, builtinLookup_eq_fast]; kernel_rfl
theorem slot_rt_hint : Slot "reversed" "__length_hint__" "reversed.__length_hint__" :=
  .of (owner := "reversed") (n := "__length_hint__") (by rw [typeLookup_type, builtinLookup_eq_fast]; kernel_rfl) (by decide +kernel) (by decide +kernel) (by decide +kernel)
    (by first | exact .inl (by decide +kernel) | exact .inr (by decide +kernel)) (by rw [isSubtype_type]; kernel_rfl)
theorem entry_rt_hint : entryFor table "reversed.__length_hint__" = some Builtin.«reversed.__length_hint__» := entryFor_of_tree (by kernel_rfl)
theorem args_rt_hint (a : Value) : argsOk "reversed.__length_hint__" ⟨[a], []⟩ := by
  unfold argsOk; rw [signature?_of (id := "reversed.__length_hint__") (n := ['_', '_', 't', 'n', 'i', 'h', '_', 'h', 't', 'g', 'n', 'e', 'l', '_', '_']) (o := ['d', 'e', 's', 'r', 'e', 'v', 'e', 'r']) (by kernel_rfl) owner_rt]; kernel_rfl
theorem ty_rt_hint : typeOf (.builtin "reversed.__length_hint__") = pure (.type "method_descriptor") := by kernel_rfl
section
variable {prog : Program} {w : World} {A : Around} {E : Value → Shared → Prop} {s : Shared} {it t : Addr} {items : Array Value}
theorem fld_rt {Q : Value → Shared → Prop} {i : Int} (hit : IsRt s.heap it t i) (ht : IsTup s.heap t items) (hsz : items.size ≤ sizeLine) (hi : i < items.size) (h : ∀ u k, Q (.int (i + 1) u) { s with toks := k }) : wpAny (model prog w) A (call (.builtin "reversed.__length_hint__") [.ref it]) Q E s := by
  obtain ⟨o, ho, hc, hd⟩ := id hit
  refine wpAny_call_entry slot_rt_hint hit.typeIs entry_rt_hint ?_ (args_rt_hint _)
  unfold Builtin.«reversed.__length_hint__»
  refine wpAny_bind (wpAny_of_eq (a := Value.ref it) (by first | rfl | kernel_rfl) ?_)
  try dsimp only
  refine wpAny_bind (wpAny_field ho hd (x := .ref t) rfl ?_)
  try dsimp only
  rw [if_neg (show ¬ (Value.ref t == Value.none) = true from by simp)]
  have hz : (items.size : Int) < 2 ^ 63 := by
    have := line63
    omega
  refine wpAny_bind (len_tuple ht hz ?_)
  refine wpAny_bind (wpAny_of_eq (a := some ((items.size : Nat) : Int)) rfl ?_)
  try dsimp only
  refine wpAny_bind (wpAny_field (s := { s with toks := s.toks + 1 + 1 }) ho hd (x := rawInt i) rfl ?_)
  show wpAny _ _ (if ((items.size : Nat) : Int) < i + 1 then _ else _) _ _ _
  rw [if_neg (by omega)]
  unfold retInt
  refine wpAny_bind (wpAny_mkInt ?_)
  exact wpAny_pure ⟨_, rfl, h _ _⟩
theorem hint_rt {Q : Bool → Shared → Prop} {i : Int} (hit : IsRt s.heap it t i) (ht : IsTup s.heap t items) (hsz : items.size ≤ sizeLine) (h0 : -1 ≤ i) (hi : i < items.size) (h : ∀ b k, Q b { s with toks := k }) : wpAny (model prog w) A (Builtin.List.listLengthHint (.ref it)) Q E s := by
  have hT := hit.typeIs
  unfold Builtin.List.listLengthHint
  refine wpAny_bind (wpAny_specialOf hT rt_len ?_)
  show wpAny _ A (specialOf (Value.ref it) (Str.ofString "__length_hint__") >>= _) _ _ _
  refine wpAny_bind (wpAny_specialOf hT rt_hint ?_)
  generalize hid : ("reversed.__length_hint__" : String) = id0
  wp_delta
  rw [show splitId id0 = some ("reversed", "__length_hint__") from by subst hid; decide +kernel]
  subst hid
  refine wpAny_bind (wpAny_isInstance (b := true) hT (by rw [isSubtype_type]; kernel_rfl) ?_)
  refine wpAny_ite_split (fun hab => absurd hab (by decide)) (fun _ => ?_)
  refine wpAny_ite_split (fun hab => absurd hab (by decide +kernel)) (fun _ => ?_)
  refine wpAny_bind (wpAny_rule ?_)
  refine wpAny_bind (wpAny_of_eq (a := (Value.builtin "reversed.__length_hint__", [Value.ref it])) (by unfold bindSpecial; rw [ty_rt_hint]; rfl) ?_)
  try dsimp only
  refine wpAny_bind (wpAny_attempt (fld_rt hit ht hsz hi fun u k => ?_))
  try dsimp only
  refine wpAny_bind (wpAny_of_eq (a := some (i + 1)) rfl ?_)
  try dsimp only
  have hb : i + 1 ≤ sizeLine := by omega
  rw [sizeLine_eq] at hb
  refine wpAny_ite_split (fun hab => absurd hab (by simp [Builtin.List.listFitsIndex]; omega)) (fun _ => ?_)
  refine wpAny_ite_split (fun hab => absurd hab (by omega)) (fun _ => ?_)
  refine wpAny_ite_split (fun hab => absurd hab (by simp [Builtin.List.listTooLong]; omega)) (fun _ => ?_)
  exact wpAny_pure (h _ _)
theorem walks_rt (hh : A.handled = none) (hne : t ≠ it) (hsz : items.size ≤ sizeLine) :
    Walks prog w A it [it, t] [it] items.size (fun i v => items[items.size - 1 - i]? = some v) (fun i h => i ≤ items.size ∧ IsRt h it t ((items.size : Int) - 1 - (i : Int)) ∧ IsTup h t items) where
  sub := fun b hb => by simp at hb; simp [hb]
  frame := fun _ h h' x hk => ⟨x.1, x.2.1.at fun o e => hk it (by simp) o e, by
    obtain ⟨o, ho, r⟩ := x.2.2
    exact ⟨o, hk t (by simp) o ho, r⟩⟩
  item := fun i s Q E hi x hQ => by
    have e : (items.size : Int) - 1 - (i : Int) = ((items.size - 1 - i : Nat) : Int) := by omega
    have hit := x.2.1
    rw [e] at hit
    have hx : items[items.size - 1 - i]? = some (items[items.size - 1 - i]'(by omega)) := Array.getElem?_eq_getElem (by omega)
    refine next_rt_item hit x.2.2 hx hsz fun h' hit' hs' => ?_
    have e2 : ((items.size - 1 - i : Nat) : Int) - 1 = (items.size : Int) - 1 - ((i + 1 : Nat) : Int) := by omega
    rw [e2] at hit'
    obtain ⟨o, ho, r⟩ := x.2.2
    exact hQ _ h' _ hx ⟨hi, hit', o, (hs'.2 t hne).trans ho, r⟩ fun b o hb eo => (hs'.2 b (fun h => hb (by simp [h]))).trans eo
  done := fun s Q E x hQ => by
    have e : (items.size : Int) - 1 - (items.size : Int) = -1 := by omega
    have hit := x.2.1
    rw [e] at hit
    exact next_rt_end hh hit fun h' he' => hQ h' s.toks fun b o hb eo => he' b o (fun h => hb (by simp [h])) eo
  self := fun _ _ _ _ x hQ => iter_rt x.2.1 hQ
theorem gather_rt {Q : List Value → Shared → Prop} (hh : A.handled = none) (hit : IsRt s.heap it t ((items.size : Int) - 1)) (hl : IsTup s.heap t items) (hne : t ≠ it) (hn : items.size ≤ sizeLine)
    (hQ : ∀ (h' : Heap) (tk : Nat) (acc : Array Value), (∀ b o, b ≠ it → s.heap.get? b = some o → h'.get? b = some o) → ItemsOf (fun i v => items[items.size - 1 - i]? = some v) acc items.size → Q acc.toList { s with heap := h', toks := tk }) :
    wpAny (model prog w) A (collect (.ref it)) Q E s := by
  have W := (walks_rt (prog := prog) (w := w) (A := A.in1) (items := items) hh hne hn).toS
  have hi1 := Heap.lt_size (id hit).choose_spec.1
  have ht1 := hl.lt
  have out : s.heap.objs.size ∉ [it, t] := by
    simp only [List.mem_cons, List.not_mem_nil, or_false, not_or]
    exact ⟨Nat.ne_of_gt hi1, Nat.ne_of_gt ht1⟩
  unfold collect
  refine wpAny_bind (wpAny_runValue (codeAny_builtin F.entry_proto_collect ?_))
  rw [Around.under_plainId F.plain_proto_collect _]
  show wpAny _ A.in1 (newList [] >>= fun l' => again (.builtin "list.__iadd__" ⟨[l', .ref it], []⟩)) _ _ s
  refine wpAny_bind (wpAny_newObj_type ?_)
  refine wpAny_pure ⟨plainId_quiet F.plain_list_iadd _, codeAny_builtin F.entry_list_iadd ?_⟩
  rw [Around.under_plainId F.plain_list_iadd _]
  have hS : (s.heap.push { cls := .type "list", data := .seq ([] : List Value).toArray }).get? s.heap.objs.size = some { cls := .type "list", data := .seq ([] : List Value).toArray } := Heap.get?_push_size _ rfl
  have hit1 := hit.at (h' := s.heap.push { cls := .type "list", data := .seq ([] : List Value).toArray }) fun o e => Heap.get?_push_of_some _ e
  have hl1 := hl.push { cls := .type "list", data := .seq ([] : List Value).toArray }
  have hT : ({ s with heap := s.heap.push { cls := .type "list", data := .seq ([] : List Value).toArray } } : Shared).TypeIs (.ref it) "reversed" := IsRt.typeIs (s := { s with heap := s.heap.push { cls := .type "list", data := .seq ([] : List Value).toArray } }) hit1
  have other : Builtin.List.listSameRef (.ref s.heap.objs.size) (.ref it) = false := by simp [Builtin.List.listSameRef, Nat.ne_of_gt hi1]
  show wpAny _ A.in1 (Builtin.List.listExtendWith (.ref s.heap.objs.size) (.ref it) (.ref s.heap.objs.size)) _ _ _
  unfold Builtin.List.listExtendWith
  refine wpAny_bind (wpAny_typeOf hT ?_)
  rw [if_neg (by rw [other]; decide)]
  refine wpAny_bind (iter_rt (s := { s with heap := s.heap.push { cls := .type "list", data := .seq ([] : List Value).toArray } }) hit1 ?_)
  have e0 : ((items.size : Nat) : Int) - 1 - ((0 : Nat) : Int) = (items.size : Int) - 1 := by omega
  refine wpAny_bind (wpAny_holding (hint_rt hit1 hl1 hn (by omega) (by omega) fun b k => ?_))
  dsimp only
  refine wpAny_ite_split (fun _ => ?_) (fun _ => ?_)
  · refine wpAny_bind (wpAny_rule ?_)
    refine wpAny_bind ?_
    show wpAny _ A.in1 (updateSeq s.heap.objs.size (·.push .none) >>= fun _ => updateSeq s.heap.objs.size (·.pop)) _ _ _
    refine wpAny_bind (wpAny_updateSeq hS rfl ?_)
    have hS2 := Heap.get?_update_self (Obj.mapSeq (·.push Value.none)) hS rfl
    refine wpAny_updateSeq (hz := by seq_fits) hS2 rfl ?_
    have hS3 := Heap.get?_update_self (Obj.mapSeq (·.pop)) hS2 rfl
    have oth : ∀ p o, p ≠ s.heap.objs.size → (s.heap.push { cls := .type "list", data := .seq ([] : List Value).toArray }).get? p = some o →
        (((s.heap.push { cls := .type "list", data := .seq ([] : List Value).toArray }).update s.heap.objs.size (Obj.mapSeq (·.push Value.none))).update s.heap.objs.size (Obj.mapSeq (·.pop))).get? p = some o :=
      fun p o hb e => (Heap.get?_update_other _ _ (Ne.symm hb)).trans ((Heap.get?_update_other _ _ (Ne.symm hb)).trans e)
    refine wpAny_pure ⟨plainId_quiet F.plain_extend_loop _, codeAny_extend_loopS W hn _ out _ items.size 0 _ _ _ rfl (Nat.zero_le _) ⟨Nat.zero_le _, by rw [e0]; exact hit1.at fun o e => oth _ o (Nat.ne_of_lt hi1) e, ?_⟩ hS3 (ItemsOf.nil _) fun s' acc' c' hm hS' hacc => ?_⟩
    · obtain ⟨o, ho, r⟩ := hl1
      exact ⟨o, oth _ o (Nat.ne_of_lt ht1) ho, r⟩
    show wpAny _ A (load s.heap.objs.size >>= _) _ _ s'
    refine wpAny_bind (wpAny_load hS' ?_)
    refine wpAny_pure ?_
    rw [Moved.eq_with hm]
    refine hQ s'.heap s'.toks acc' (fun b o hb e => hm.heap b o (fun hmem => ?_) (oth b o (Nat.ne_of_lt (Heap.lt_size e)) (Heap.get?_push_of_some _ e))) hacc
    rcases List.mem_cons.mp hmem with e' | hmem
    · exact absurd (Heap.lt_size e) (by rw [e']; exact Nat.lt_irrefl _)
    · exact hb (List.mem_singleton.mp hmem)
  · refine wpAny_pure ⟨plainId_quiet F.plain_extend_loop _, codeAny_extend_loopS W hn _ out _ items.size 0 _ _ _ rfl (Nat.zero_le _) ⟨Nat.zero_le _, by rw [e0]; exact hit1, hl1⟩ hS (ItemsOf.nil _) fun s' acc' c' hm hS' hacc => ?_⟩
    show wpAny _ A (load s.heap.objs.size >>= _) _ _ s'
    refine wpAny_bind (wpAny_load hS' ?_)
    refine wpAny_pure ?_
    rw [Moved.eq_with hm]
    refine hQ s'.heap s'.toks acc' (fun b o hb e => hm.heap b o (fun hmem => ?_) (Heap.get?_push_of_some _ e)) hacc
    rcases List.mem_cons.mp hmem with e' | hmem
    · exact absurd (Heap.lt_size e) (by rw [e']; exact Nat.lt_irrefl _)
    · exact hb (List.mem_singleton.mp hmem)
theorem mk_rt {Q₁ : Value → Shared → Prop} (hh : A.handled = none) (hit : IsRt s.heap it t ((items.size : Int) - 1)) (hl : IsTup s.heap t items) (hne : t ≠ it) (hn : items.size ≤ sizeLine)
    (h : ∀ (h' : Heap) (tk : Nat) (acc : Array Value), (∀ b o, b ≠ it → s.heap.get? b = some o → h'.get? b = some o) → ItemsOf (fun i v => items[items.size - 1 - i]? = some v) acc items.size →
      Q₁ (.ref h'.objs.size) { s with heap := h'.push { cls := .type "tuple", data := .seq acc }, toks := tk }) :
    codeAny (model prog w) A (.call (.builtin "tuple.__new__") ⟨[.type "tuple", .ref it], []⟩) (wants Q₁ E) s := by
  refine codeAny_of_tree ?_
  show wpAny _ A.in1 (do checkBuiltinCall "tuple.__new__" ⟨[.type "tuple", .ref it], []⟩; again (.builtin "tuple.__new__" ⟨[.type "tuple", .ref it], []⟩)) _ _ s
  refine wpAny_bind (wpAny_of_eq (F.newCall_tuple_1 _) (wpAny_pure ⟨plainId_quiet F.plain_tuple_new _, codeAny_builtin F.entry_tuple_new ?_⟩))
  rw [Around.under_plainId F.plain_tuple_new _]
  have hsub := sub_tuple_self
  have hinit := init_tuple_lookup
  have hmh := madeHere_tuple
  have hTI : s.TypeIs (.ref it) "reversed" := hit.typeIs
  have hh1 : A.in1.handled = none := hh
  wp_walk using wpAny_typeOf hTI, gather_rt (A := A.in1) hh1 hit hl hne hn
  intro h' tk acc hk hacc
  show wpAny _ _ (Builtin.Tuple.tupleExact acc.toList.toArray >>= fun v => ret v) _ _ _
  unfold Builtin.Tuple.tupleExact
  refine wpAny_bind (wpAny_newObj_type ?_ (by show acc.toList.toArray.size ≤ sizeLine; simp only [Array.toArray_toList]; rw [hacc.1]; exact hn))
  refine wpAny_pure ?_
  rw [show acc.toList.toArray = acc by simp]
  exact h h' tk acc hk hacc
theorem tup_rt {Q : Value → Shared → Prop} (hh : A.handled = none) (hit : IsRt s.heap it t ((items.size : Int) - 1)) (hl : IsTup s.heap t items) (hne : t ≠ it) (hn : items.size ≤ sizeLine)
    (hQ : ∀ (h' : Heap) (tk : Nat) (acc : Array Value), (∀ b o, b ≠ it → s.heap.get? b = some o → h'.get? b = some o) → ItemsOf (fun i v => items[items.size - 1 - i]? = some v) acc items.size →
      Q (.ref h'.objs.size) { s with heap := h'.push { cls := .type "tuple", data := .seq acc }, toks := tk }) :
    wpAny (model prog w) A (call (.type "tuple") [.ref it]) Q E s := by
  refine callType_codes (Q₁ := fun obj s₁ => s₁.TypeIs obj "tuple" ∧ Q obj s₁) F.called_tuple (F.typeCall_tuple_1 _) F.entry_object_init
    (mk_rt (A := A.in1) hh hit hl hne hn fun h' tk acc hk hacc => ⟨⟨_, Heap.get?_push_size _ rfl, rfl⟩, hQ h' tk acc hk hacc⟩) fun obj s₁ h₁ => ?_
  exact ⟨h₁.1, F.args_object_init_2 obj _, object_init_meets F.called_tuple.init.lookup F.called_tuple.made (by decide) prog w A.in1 _ s₁ ⟨h₁.1, rfl, h₁.2⟩⟩
end
/-- tuple(reversed(x)), x a tuple: a new tuple -/
def tTupRevT (K : PySem.W.Frag) (te : TE) : TE := fun σ H Q => te σ H fun v H1 => ∃ (a : Addr) (xs : List V), v = .ref a ∧ SqT K H1 a xs ∧ ∀ q, H1 q = none → Q (.ref q) (upd H1 q (.tup xs.reverse))
theorem pe_tupRevT {X : Cx} {e : Expr} {te : TE} {p p2 pos pos2 : Pos} (hc : X.calm = true) (hg : Gl X "tuple") (hm : X.mg "tuple" = none) (hg2 : Gl X "reversed") (hm2 : X.mg "reversed" = none) (he : PE X e te)
    (hs : starEach [e] X.env = (false, eval e X.env) :: starEach [] X.env := by rfl)
    (hs2 : starEach [.Call (.Name "reversed" p2) [e] [] pos2] X.env = (false, eval (.Call (.Name "reversed" p2) [e] [] pos2) X.env) :: starEach [] X.env := by rfl) :
    PE X (.Call (.Name "tuple" p) [.Call (.Name "reversed" p2) [e] [] pos2] [] pos) (tTupRevT X.K te) := by
  refine ⟨fun pins s σ H Q I h => ?_⟩
  refine Call_ (ld_blt I hg hm boot_tuple (PyProof.Rows.callWith_type1 (args_cons (Call_ (ld_blt I hg2 hm2 PyProof.Rows.boot_reversed (PyProof.Rows.callWith_type1 (args_cons (thn (he.run pins s σ H _ I h) fun u s1 ⟨v, H1, I1, r1, q1⟩ => args_nil ?_) hs) hs rfl))) hs2) hs2 rfl))
  obtain ⟨a, xs, ev, hq, q⟩ := q1
  subst ev
  obtain rfl : u = Value.ref a := r1
  obtain ⟨its, rv, p', hz⟩ := I1.tuple hq
  have hn : its.toArray.size ≤ sizeLine := by rw [List.size_toArray, ← rv.length]; exact hz
  have hl63 := line63
  refine call_reversed_tup p' (fun A E Q k => len_tuple p' (by omega) k) (args_nil ?_)
  have k0 : ∀ b o, s1.heap.get? b = some o → (s1.heap.push (rtObj a ((its.toArray.size : Int) - 1))).get? b = some o := fun b o e => Heap.get?_push_of_some _ e
  have I2 : Inv X pins σ H1 { s1 with heap := s1.heap.push (rtObj a ((its.toArray.size : Int) - 1)), toks := s1.toks + 1 + 1 } := I1.kept (t' := s1.toks + 1 + 1) k0
  obtain ⟨f0, f1, f2, f3, f4, f5⟩ := I1.fpOk (H' := H1) (b := s1.heap.objs.size) (Nat.le_refl _) (I1.hok.fresh (Nat.le_refl _))
  have hne : a ≠ s1.heap.objs.size := Nat.ne_of_lt p'.lt
  refine tup_rt (s := { s1 with heap := s1.heap.push (rtObj a ((its.toArray.size : Int) - 1)), toks := s1.toks + 1 + 1 }) (I1.ok.hd hc) ⟨_, Heap.get?_push_size _ rfl, rfl, rfl⟩ (p'.push _) hne hn fun h' tk acc hk hi => ?_
  have I3 : Inv X pins σ H1 { s1 with heap := h', toks := tk } := I2.turned (t' := tk) (fun b o hb e => hk b o hb e) f0 f1 f3 f4 f5
  refine ⟨.ref h'.objs.size, upd H1 h'.objs.size (.tup xs.reverse), I3.laid (t' := tk) (fun c o e => Heap.get?_push_of_some _ e) (Nat.le_refl _) (show ObjOk X.prog X.w _ _ _ (.tup xs.reverse) from ⟨by rw [List.length_reverse]; exact hz, acc.toList, vals_rev rv hi, ?_⟩), rfl, q _ (I3.hok.fresh (Nat.le_refl _))⟩
  rw [Array.toArray_toList]
  exact IsTup.new _ _
end L2.My
end
section
set_option Elab.async false
set_option linter.all false
set_option maxRecDepth 100000
set_option maxHeartbeats 4000000
/-! A law that knows that nothing is being shown when it is called: so it may ask for repr. -/
namespace L2.My
open PySem PySem.Spec PyProof.Rows LamX
/-- the promise of a def that is called while nothing is being shown -/
structure FnOkG (P : Program) (w : World) (K : PySem.W.Frag) (mg : Str → Option Value) (base : Heap) (k : Nat) (f : Addr) (fd : FuncData) (ps : List Str) (sp : Sp) : Prop where
  len : ∀ vs H Q E, sp vs H Q E → vs.length = ps.length
  run : ∀ (A : Around) (outer : List Env) (s : Shared) (H : Hp) (args : Args) (us : List Value) (vs : List V) (Q : VK) (E : XK), Room k A → A.guards = some [] → Env0 P w K mg base A outer s H → BindsTo s fd args (ps.zip us) → Vals vs us → sp vs H Q E →
    codeAny (model P w) A (.call (.ref f) args) (CR CX0 outer P w H s Q E) s
theorem fun_okG {P : Program} {w : World} {K : PySem.W.Frag} {mg : Str → Option Value} {base : Heap} {x qual : Str} {st : Stmt} {f : Addr} {fd : FuncData} {N ps : List Str} {k : Nat} {sp : Sp} (F : Fun K x qual st f fd) (S : FnScope N ps (defScope st)) (len : ∀ vs H Q E, sp vs H Q E → vs.length = ps.length)
    (hbody : ∀ (cdv : Value) (A : Around) (outer : List Env) (s : Shared) (H : Hp) (vs : List V) (Q : VK) (E : XK), Room k (A.deeper (envOfC qual (defScope st) s.heap.objs.size f cdv)) → A.guards = some [] → sp vs H Q E →
      ∃ t, PSs (cxOf CX0 P w K mg base N qual (defScope st) f cdv A outer s H E).nox (defBody st) t ∧ t { nx := fun _ H' => Q .non H', rt := Q } (start N vs) H) : FnOkG P w K mg base (k + 1) f fd ps sp := by
  obtain ⟨oc, od, kV, doc, pm, an, cdv, ct, osl, rfl, lk, hcd⟩ := F.ex
  refine ⟨len, fun A outer s H args us vs Q E hr hgd e0 hb r hsp => ?_⟩
  have keep : ∀ b o, base.get? b = some o → s.heap.get? b = some o := fun b o e => (e0.bs b o e).1
  have KX : K.In s.heap := e0.mod.kin.keeps keep
  refine codeAny_call_function hr.depth (KX _ _ lk) rfl S.co S.gen rfl (PySem.W.codeRec_of KX hcd) (hb _ _ _ _ ?_)
  refine wpAny_newFunctionEnv_cells S.kind (fun ⟨n, v⟩ hy => (S.par n (List.of_mem_zip hy).1).imp_right fun q => ⟨q, PySem.W.cellsFrom_some _ _ _ (.inl q)⟩) fun env he s1 z => ?_
  subst he
  refine ⟨(e0.mod.nolimit.keeps keep).keeps z.toInCall.keep, codeAny_func ?_⟩
  obtain ⟨t, ht, hq⟩ := hbody cdv A outer s H vs Q E (hr.deeper _) hgd hsp
  refine wpAny_mono (ht.nox.run [] s1 (start N vs) H _ (inv_start S hr.hd e0 (len _ _ _ _ hsp) r z) hq) (fun fl s' hs => ?_) fun e s' hs => hs
  cases fl with
  | ret u => exact let ⟨v, _, H', J, rv, q⟩ := hs; ⟨v, H', J.os, J.bare, J.base, J.hok, rv, q⟩
  | next => exact let ⟨_, H', J, q⟩ := hs; ⟨V.non, H', J.os, J.bare, J.base, J.hok, rfl, q⟩
  | brk => exact let ⟨_, _, _, q⟩ := hs; q.elim
  | cont => exact let ⟨_, _, _, q⟩ := hs; q.elim
/-- such a law, called by the caller, from a heap in which nothing but its script may be tracked -/
theorem law_callG {P : Program} {w : World} {K : PySem.W.Frag} {mg mb : Str → Option Value} {k : Nat} {fa a : Addr} {fd : FuncData} {x : Str} {sp : Sp} {s₁ : Shared} {vs : List Value} {ns : List Int}
    (KX : K.In s₁.heap) (hns : s₁.heap.Ns mainGlobals mg) (hb : s₁.heap.Ns builtinsNs mb) (hbb : ∀ x : Str, x ≠ "__name__" → mb x = bootBuiltins x) (hlim : s₁.heap.NoLimit) (hg : s₁.gens = #[])
    (ha : s₁.heap.get? a = some { cls := .type "list", data := .seq vs.toArray }) (hi : IntsAre vs ns) (hl : ns.length ≤ sizeLine) (hr : Room k callerA)
    (F : ∀ base : Heap, K.In base → base.Ns mainGlobals mg → FnOkG P w K mg base k fa fd [x] sp) (hbind : ∀ (s : Shared) (u : Value), BindsTo s fd ⟨[u], []⟩ [(x, u)])
    (hsp : ∀ H : Hp, SqL K H a (ns.map V.int) → sp [.ref a] H (fun v _ => v = .bl true) fun _ _ _ => False) :
    codeAny (model P w) callerA (.call (.ref fa) ⟨[.ref a], []⟩) (fun r s' => r = .ok (.ret (.bool true)) ∧ OldK s₁.heap s'.heap ∧ s'.os = s₁.os ∧ AllBare s'.gens) s₁ := by
  have rv := vals_ints hi
  have core : ∀ H : Hp, (∀ b, H b = none ∨ ∃ o xs, H b = some (.frz o (.lst xs))) → SqL K H a (ns.map V.int) → HOk P w H s₁.heap → (∀ b, H b ≠ none → b = a ∧ K.lookup a = none) →
      codeAny (model P w) callerA (.call (.ref fa) ⟨[.ref a], []⟩) (fun r s' => r = .ok (.ret (.bool true)) ∧ OldK s₁.heap s'.heap ∧ s'.os = s₁.os ∧ AllBare s'.gens) s₁ := by
    intro H hO hS hok hA
    -- what is no script is no part of H
    have out : ∀ {b : Addr} {o : Obj}, s₁.heap.get? b = some o → (b = a → K.lookup a = none → False) → (hidT s₁.heap H).get? b = some o := fun {b o} e no => hidT_get e (by
      cases q : H b with
      | none => rfl
      | some u => exact (no (hA b (by rw [q]; simp)).1 (hA b (by rw [q]; simp)).2).elim)
    have nsK : ∀ {b : Addr} {m : Str → Option Value}, s₁.heap.Ns b m → (hidT s₁.heap H).Ns b m := fun {b m} ⟨o, es, ep, e, d, r⟩ => ⟨o, es, ep, out e (fun z _ => by
      rw [z, ha] at e
      cases e
      have d' : Data.seq vs.toArray _ = Data.dict es ep := d
      cases d'), d, r⟩
    have hKb : K.In (hidT s₁.heap H) := fun b o e => out (KX b o e) fun z h => by rw [z, h] at e; cases e
    have hM : L2.Mod K mg (hidT s₁.heap H) := ⟨hKb, nsK hns, ⟨mb, nsK hb, hbb⟩, let ⟨mc, h1, h2⟩ := hlim; ⟨mc, nsK h1, h2⟩⟩
    have e0 : Env0 P w K mg (hidT s₁.heap H) callerA [] s₁ H := ⟨rfl, hM, fun b o e => of_hidT e, Nat.le_of_eq (hidT_size _ _), trivial, fun b hb => absurd (show b ∈ ([] : List Addr) from hb) (by simp), hok, .of_eq hg⟩
    refine codeAny_mono ((F _ hKb (nsK hns)).run callerA [] s₁ H ⟨[.ref a], []⟩ [.ref a] [.ref a] _ _ hr rfl e0 (hbind s₁ (.ref a)) (.cons rfl .nil) (hsp H hS)) fun r s' h => ?_
    cases r with
    | error e => exact False.elim h
    | ok fl =>
      cases fl with
      | next => exact False.elim h
      | brk => exact False.elim h
      | cont => exact False.elim h
      | ret u =>
        obtain ⟨v, H', os, bare, un, hok', r', q⟩ := h
        obtain rfl : v = .bl true := q
        obtain rfl : u = Value.bool true := r'
        refine ⟨rfl, OldK.of_keep fun b o e => ?_, os, bare⟩
        rcases hO b with q | ⟨ob, xs, z⟩
        · exact un.keep b o e q (by intro z; exact absurd (show b ∈ ([] : List Addr) from z) (by simp)) (by simp)
        · obtain ⟨e1, _⟩ := hok b _ z
          obtain ⟨e2, _⟩ := hok' b _ (un.frzs b ob _ z)
          rw [e] at e1
          cases e1
          exact e2
  cases hk : K.lookup a with
  | some o =>
    have e := KX a o hk
    rw [ha] at e
    cases e
    exact core (fun _ => none) (fun _ => .inl rfl) (.inr ⟨_, vs.toArray, _, hk, rfl, rfl, rfl, by rw [List.size_toArray, hi.length]; exact hl, by simpa using rv⟩) (fun b u z => by have z' : (none : Option HO) = some u := z; cases z') fun b z => absurd rfl z
  | none =>
    have yes : ∀ {b : Addr}, b = a → (if b = a then some (HO.frz { cls := .type "list", data := .seq vs.toArray } (.lst (ns.map V.int))) else none) = some (HO.frz { cls := .type "list", data := .seq vs.toArray } (.lst (ns.map V.int))) := fun h => if_pos h
    have no : ∀ {b : Addr}, b ≠ a → (if b = a then some (HO.frz { cls := .type "list", data := .seq vs.toArray } (.lst (ns.map V.int))) else none) = none := fun h => if_neg h
    refine core (fun b => if b = a then some (.frz { cls := .type "list", data := .seq vs.toArray } (.lst (ns.map V.int))) else none) (fun b => ?_) (.inl (.inr ⟨{ cls := .type "list", data := .seq vs.toArray }, yes rfl⟩)) (fun b u z => ?_) fun b z => ⟨Classical.byContradiction fun h => z (no h), hk⟩
    · by_cases h : b = a
      · exact .inr ⟨_, _, yes h⟩
      · exact .inl (no h)
    · by_cases h : b = a
      · have z' := (yes h).symm.trans z
        cases z'
        subst h
        exact ⟨ha, by rw [List.length_map]; exact hl, vs, _, rv, ha⟩
      · have z' := (no h).symm.trans z
        cases z'
theorem walkG {l : PySem.W.OpenLaw} {n k : Nat} {q : Program} {loose : List Str} {XP : (Str → Option Value) → Heap → Prop} {YP : World → Heap → Prop} {d : DefRec} {x : Str} {sp : PySem.W.Frag → Sp}
    (hn : l.most = some n) (hn2 : n ≤ sizeLine) (hdf : d.params.defaults = []) (hr : Room k callerA)
    (F : ∀ (w : World) (mg : Str → Option Value) (fa : Addr) (h : Heap), YP w h → h.Ns mainGlobals mg → mg d.name = some (.ref fa) → ∃ (K : PySem.W.Frag) (fd : FuncData), K.In h ∧ (∀ (s : Shared) (u : Value), BindsTo s fd ⟨[u], []⟩ [(x, u)]) ∧
      ∀ base : Heap, K.In base → base.Ns mainGlobals mg → FnOkG l.prog w K mg base k fa fd [x] (sp K))
    (hsp : ∀ (K : PySem.W.Frag) (H : Hp) (a : Addr) (ns : List Int), SqL K H a (ns.map V.int) → sp K [.ref a] H (fun v _ => v = .bl true) fun _ _ _ => False) :
    PySem.W.WalkO q loose XP YP l.row.toRowW d [] (fun f vs => PySem.call f vs) := by
  refine Att.attach_callB hn hdf fun w s₀ s₁ mg mb fa o pm cd doc a vs ns G Y ho hd hcd hmg hobj hints hlen hbits hg => ?_
  obtain ⟨K, fd, KX, hb, hF⟩ := F w mg fa _ Y G.T.g hmg
  exact law_callG KX G.T.g G.T.b G.T.builtins G.T.nolimit hg hobj hints (Nat.le_trans hlen hn2) hr hF hb fun H hS => hsp K H a ns hS
end L2.My
end
section
set_option Elab.async false
set_option linter.all false
set_option maxRecDepth 100000
set_option maxHeartbeats 4000000
/-! try, then several clauses 'except x as n', then any more: what the body raises is of one of those classes. -/
namespace L2.My
open PySem PySem.Spec PyProof.Rows
abbrev HdT : Type := Value × Nat × (Addr → Value → Option Addr → TS)
/-- what the clauses wish, one after the other: one of them is meant -/
def wNam (K : PySem.W.Frag) (D : Ends) : List HdT → WX
  | [] => fun _ _ _ _ => False
  | t :: r => fun cls d σ H => ∃ b, PySem.W.exmOne K cls t.1 = some b ∧ (b = true → ∀ a, H a = none → t.2.2 a cls d { nx := fun σ' H' => D.nx (σ'.set t.2.1 none) H', rt := D.rt, bk := fun σ' H' => D.bk (σ'.set t.2.1 none) H', ct := fun σ' H' => D.ct (σ'.set t.2.1 none) H' } (σ.set t.2.1 (some (.ref a))) H) ∧ (b = false → wNam K D r cls d σ H)
inductive HdN (X : Cx) : List ExceptHandler → List HdT → Prop
  | nil {hds : List ExceptHandler} : HdN X hds []
  | cons {x n : Str} {c : Value} {i : Nat} {ts : Addr → Value → Option Addr → TS} {b₀ : Stmt} {suite : List Stmt} {np pos' : Pos} {hds : List ExceptHandler} {l : List HdT} (hi : X.N[i]? = some n) (hln : X.env.kindOf n = some .local) (hc : Names X x c)
      (hsu : ∀ (a : Addr) (oe : Obj) (cls : Value) (d : Option Addr) (pn : List (Addr × Obj)), Zc cls d oe → (∃ vs, oe.data = .fields vs) → PSs (X.suite a ((a, oe) :: pn)) (b₀ :: suite) (ts a cls d)) (r : HdN X hds l) :
      HdN X (.ExceptHandler (some (.Name x np)) (some n) (b₀ :: suite) pos' :: hds) ((c, i, ts) :: l)
section
variable {X : Cx} {body : List Stmt} {h₀ : ExceptHandler} {hds : List ExceptHandler} {l : List HdT} {pos : Pos} {tb : WX → TS}
theorem ps_try_nam (hs : X.stack = X.env :: X.outer) (hf : X.env.frame = some X.env.locals) (hN : X.N.Nodup)
    (hb : ∀ (W : WX) (pn : List (Addr × Obj)) (xe : Value → Shared → Prop), Takes (X.tr pn xe) W → PassesOwn (model X.prog X.w) X.A X.env xe → PSs (X.tr pn xe) body (tb W))
    (hh : HdN X (h₀ :: hds) l) : PS X (.Try body (h₀ :: hds) [] [] pos) (fun D σ H => tb (wNam X.K D l) D σ H) := by
  refine ⟨fun pins s σ H D I h => ?_⟩
  have ok := I.ok
  have hfr : X.A.frames = some (X.env :: X.outer) := by rw [ok.frames, hs]
  refine wpAny_Try_except ?_
  refine wpAny_mono ((hb (wNam X.K D l) (X.pn ++ pins) (fun e s₁ => wpAny (model X.prog X.w) X.A (noteFrame e X.env) (fun _ s₂ => wpAny (model X.prog X.w) X.A (setFlight e none) (fun _ s₃ =>
    wpAny (model X.prog X.w) X.A (handleBy e X.env (h₀ :: hds)) (SP X pins D) X.xe s₃) X.xe s₂) X.xe s₁) (fun u s' xx => ?_) PassesOwn.looking).run [] s σ H D (I.toTry _) h) (fun f s1 hsp => ?_) (fun e s1 he => he)
  rotate_left
  · cases f with
    | next => exact let ⟨σ', H', J', q⟩ := hsp; wpAny_execs_nil ⟨σ', H', J'.ofTry ok, q⟩
    | brk => exact let ⟨σ', H', J', q⟩ := hsp; ⟨σ', H', J'.ofTry ok, q⟩
    | cont => exact let ⟨σ', H', J', q⟩ := hsp; ⟨σ', H', J'.ofTry ok, q⟩
    | ret u => exact let ⟨v, σ', H', J', r, q⟩ := hsp; ⟨v, σ', H', J'.ofTry ok, r, q⟩
  obtain ⟨a, B, sI, pins', σ', H', cls, d, rfl, J', nb, up, sky, na, os, ag, wish⟩ := xx
  have J : Inv X pins σ' H' sI := J'.ofTry ok
  refine Sky.land Zc.steady hfr hf (show Sky B (X.env :: X.outer) a (Zc cls d) X.env.locals s'.heap by rw [← hs]; exact sky) fun h3 fl3 up3 => ?_
  obtain ⟨oe3, vs3, he3, hz3, hd3⟩ := fl3.there
  have off : a ∉ frs (X.env :: X.outer) := fun hm => by
    obtain ⟨_, o', e', hnf⟩ := fl3.2.2.1.mem hm
    rw [he3] at e'; cases e'
    exact hnf _ hd3
  have nL : a ≠ X.env.locals := fun z => off (List.mem_filterMap.mpr ⟨X.env, List.mem_cons_self, by rw [hf, z]⟩)
  have nF : a ∉ X.fs := fun hm => by
    obtain ⟨e, he, q⟩ := List.mem_filterMap.mp hm
    exact off (List.mem_filterMap.mpr ⟨e, List.mem_cons_of_mem _ he, q⟩)
  have J3 : Inv X pins σ' H' { s' with heap := h3 } := J.landed nb fl3.1 (up.trans up3) os ag
  have S3 := J3.suite he3 hd3 na nL nF
  have LT : PySem.W.Looks (model X.prog X.w) h3 (typeOf (.ref a)) cls := fun A Q E s k q => wpAny_typeOf_ref (k _ _ he3) (by rw [hz3.1]; exact q)
  have go : ∀ {hds' : List ExceptHandler} {l' : List HdT}, HdN X hds' l' → wNam X.K D l' cls d σ' H' → wpAny (model X.prog X.w) X.A (handleBy (.ref a) X.env hds') (SP X pins D) X.xe { s' with heap := h3 } := by
    intro hds' l' hk
    induction hk with
    | nil => exact fun z => z.elim
    | @cons x n c i ts b₀ suite np pos' hds2 l2 hi hln hc hsu r ih =>
      rintro ⟨b, hm, hyes, hno⟩
      refine wpAny_handleBy_cons (codeAny_handlers_test ?_) (by intro q; cases q)
      have LM := PySem.W.exm_one (M := model X.prog X.w) (J3.kIn) LT hm
      have test : ∀ {Q : Value → Shared → Prop} {E : Value → Shared → Prop}, Q c { s' with heap := h3 } → wpAny (model X.prog X.w) (X.A.mark (some (.ref a))) (eval (.Name x np) X.env) Q E { s' with heap := h3 } := fun {Q E} q => by
        obtain ⟨hg, hdbg, hm | ⟨hm, hv, hnn⟩⟩ := hc
        · exact ld_glob (X := X.suite a ((a, oe3) :: (X.pn ++ pins))) S3 hg hm q hdbg
        · exact ld_blt (X := X.suite a ((a, oe3) :: (X.pn ++ pins))) S3 hg hm hv q hnn hdbg
      refine test (LM.here ?_)
      cases b with
      | false => exact ih (hno rfl)
      | true =>
        refine codeAny_handlers_suite_as ?_
        refine HandSPX.lands_againZ fl3 fun h4 fl4 up4 => ?_
        obtain ⟨oe4, vs4, he4, hz4, hd4⟩ := fl4.there
        have S4 := (J.landed nb fl4.1 ((up.trans up3).trans up4) os ag : Inv X pins σ' H' { s' with heap := h4 }).suite he4 hd4 na nL nF
        refine store_ok (X := X.suite a ((a, oe4) :: (X.pn ++ pins))) (v := .ref a) S4 hN hi (.inl hln) rfl (fun s5 S5 => ?_) (.inr hln)
        refine wpAny_mono ((hsu a oe4 cls d (X.pn ++ pins) hz4 ⟨_, hd4⟩).run [] s5 _ H' _ S5 (hyes rfl a na)) (fun f s6 hsp => ?_) (fun _ _ z => False.elim z)
        have end_ : ∀ {σ6 : St} {H6 : Hp} {Q : Shared → Prop}, Inv (X.suite a ((a, oe4) :: (X.pn ++ pins))) [] σ6 H6 s6 → (∀ s7, Inv X pins (σ6.set i none) H6 s7 → Q s7) →
            wpAny (model X.prog X.w) X.A (do bindName X.env n .none; unbindBehindTheSuite X.env n pos') (fun _ s7 => Q s7) X.xe s6 := fun {σ6 H6 Q} S6 hq => gone_ok (S6.unsuite ok) hN hi hln hq
        cases f with
        | next => exact let ⟨σ6, H6, S6, q6⟩ := hsp; end_ S6 fun s7 J7 => ⟨_, _, J7, q6⟩
        | brk => exact let ⟨σ6, H6, S6, q6⟩ := hsp; end_ S6 fun s7 J7 => ⟨_, _, J7, q6⟩
        | cont => exact let ⟨σ6, H6, S6, q6⟩ := hsp; end_ S6 fun s7 J7 => ⟨_, _, J7, q6⟩
        | ret u => exact let ⟨v6, σ6, H6, S6, r6, q6⟩ := hsp; end_ S6 fun s7 J7 => ⟨_, _, _, J7, r6, q6⟩
  exact go hh wish
end
end L2.My
end
section
set_option Elab.async false
set_option linter.all false
set_option maxRecDepth 100000
set_option maxHeartbeats 4000000
/-! Own errors raised, and a def that calls what it got and names the error. -/
namespace L2.My
open PySem PySem.Spec PyProof.Rows
section
variable {X : Cx}
/-- what gives a new exception without a dict back makes an exception -/
theorem pmk_x {e : Expr} {te : TE} (hx : X.ex = []) (he : PE X e te) : PMk X e (fun σ H Q => te σ H fun x H1 => ∃ a C, x = .ref a ∧ H1 a = some (exo a C none) ∧ Fr0 X.H_0 a ∧ Raises X (.ref C) ∧ Q (.ref C) none (delH H1 a)) := by
  intro pins s σ H Q I h
  refine wpAny_mono (he.run pins s σ H _ I h) (fun u s1 hu => ?_) fun _ _ x => x
  obtain ⟨v, H1, I1, r1, a, C, rfl, ha, h0, hr, q⟩ := hu
  cases r1
  obtain ⟨t1, ho⟩ := exo_at I1.hok ha
  obtain ⟨G, gs, ga, J⟩ := I1.untrack ha h0 hx
  exact ⟨a, _, _, { s1 with heap := G }, delH H1 a, .ref C, none, rfl, J, gs, ga, ho, ⟨rfl, rfl⟩, rfl, rfl, delH_same, rfl, I1.bare, hr, q⟩
/-- __init__ that does nothing -/
def spNo : Sp := fun vs H Q _ => ∃ a, vs = [.ref a] ∧ Q .non H
/-- the facts by which a class whose __init__ does nothing is made -/
structure Ini0 (P : Program) (w : World) (K : PySem.W.Frag) (mg : Str → Option Value) (base : Heap) (C : Addr) : Prop where
  o : OexC K C
  f : ∃ fI fd, PySem.W.findIn K (.ref C) "__init__" = some (some (.ref fI)) ∧ PySem.W.typeIn K (.ref fI) = some (.type "function") ∧ FnOk P w K mg base CX0 1 fI fd ["self"] spNo ∧ Binds K fd ["self"] []
/-- raise X() -/
theorem pmk_no {C : Addr} {x : Str} {p pos : Pos} (T : Ini0 X.prog X.w X.K X.mg X.base C) (hx : X.ex = []) (hr : Room 2 X.A) (hg : Gl X x) (hm : X.mg x = some (.ref C)) (hdb : (x == ("__debug__" : Str)) = false := by decide) :
    PMk X (.Call (.Name x p) [] [] pos) (fun σ H Q => (∀ a, H a = none → X.H_0 a = none) ∧ Q (.ref C) none H) := by
  obtain ⟨fI, fd, i1, i2, F, b⟩ := T.f
  intro pins s σ H Q I h
  obtain ⟨h0, q⟩ := h
  refine pmk_x hx (pe_mkx0 (CX := CX0) T.o i1 i2 F hr b .nil (fun _ _ _ _ _ _ _ z => z.elim) hg hm hdb) pins s σ H Q I ?_
  refine ⟨by decide, fun a ha => ⟨a, rfl, rfl, a, C, rfl, upd_same, fr0_none (h0 a ha), raises_own T.o.exC T.o.tyC, ?_⟩⟩
  rw [delH_new ha]
  exact q
/-- isinstance of the caught exception, whatever it is -/
def rIsC (K : PySem.W.Frag) (a : Addr) (cls : Value) (d : Option Addr) : List V → Hp → VK → Prop := fun xs H Q => ∃ (D : Addr) (c : V) (cv : Value) (b : Bool), cls = .ref D ∧ d = none ∧ ExcC K D ∧ xs = [.ref a, c] ∧ (∀ u, RelV c u → u = cv) ∧ PySem.W.kitOne K (.ref D) cv = some b ∧ Q (.bl b) H
theorem call_isC {a : Addr} {oe : Obj} {cls : Value} {d : Option Addr} {pn : List (Addr × Obj)} (hz : Zc cls d oe) (hf : ∃ vs, oe.data = .fields vs) : CallR (X.suite a ((a, oe) :: pn)) (.builtin "isinstance") (rIsC X.K a cls d) := by
  intro pins s σ H xs us Q I r h
  obtain ⟨D, c, cv, b, rfl, rfl, C, rfl, hcv, e, q⟩ := h
  exact call_isE C hz hf pins s σ H _ us Q I r ⟨c, cv, b, rfl, hcv, e, q⟩
theorem XC.exc {K : PySem.W.Frag} {C : Addr} (T : XC K C) : ExcC K C := ⟨T.hga, T.hgt, T.o.exC, T.hd, T.ha, T.hn, T.ht, T.hm⟩
end
end L2.My
end
section
set_option Elab.async false
set_option linter.all false
set_option maxRecDepth 100000
set_option maxHeartbeats 4000000
/-! Trees as they stand; made of what is drawn; data that is shown. -/
namespace L2.My
open PySem PySem.Spec PyProof.Rows
def TreeAt (H : Hp) (C x dx la na : Addr) (h : Nat) (ls : List Lf) (ns : List Nd) : Prop := H x = some (.ins C dx [("height", .int (h : Nat)), ("leaves", .ref la), ("nodes", .ref na)]) ∧ LvsAt H la ls ∧ NdsAt H na ns
theorem depM {α : Type} {f : α → PyData} {n : Nat} (h : ∀ x, PyData.depth (f x) ≤ n) : ∀ xs : List α, PyData.depthAll (xs.map f) ≤ n + 1
  | [] => by
    simp only [List.map_nil, PyData.depthAll]
    omega
  | x :: r => by
    have h1 := depM h r
    have h2 := h x
    simp only [List.map_cons, PyData.depthAll]
    omega
theorem dep_tup {α : Type} {f : α → PyData} {n : Nat} (h : ∀ x, PyData.depth (f x) ≤ n) (xs : List α) : PyData.depth (.tuple (xs.map f)) ≤ n + 2 := by
  have := depM h xs
  simp only [PyData.depth]
  omega
theorem dep_lf (l : Lf) : PyData.depth (dLf l) ≤ 4 := by
  cases l with
  | none => simp only [dLf, PyData.depth]; omega
  | some p => simp only [dLf, PyData.depth, PyData.depthAll]; omega
theorem dep_nd (n : Nd) : PyData.depth (dNd n) ≤ 8 := by
  have h1 := dep_tup (f := fun (j : Nat) => PyData.int j) (n := 1) (fun x => by simp only [PyData.depth]; omega) n.2.2
  simp only [dNd, dNats, PyData.depth, PyData.depthAll] at h1 ⊢
  omega
theorem dep_lvs (ls : List Lf) : PyData.depth (dLvs ls) ≤ 6 := dep_tup dep_lf ls
theorem dep_nds (ns : List Nd) : PyData.depth (dNds ns) ≤ 10 := dep_tup dep_nd ns
theorem shaped_of {d : PyData} (h1 : Nice d) (h2 : PyData.depth d ≤ 40) : SeqAt.shaped d = true := by
  simp only [SeqAt.shaped, h1.cl, Bool.true_and]
  exact decide_eq_true (by omega)
theorem nice_lvs {ls : List Lf} (h : ∀ l ∈ ls, GLf l) : Nice (dLvs ls) := .tup (.map fun l hl => nice_lf (h l hl))
theorem nice_nds {ns : List Nd} (h : ∀ n ∈ ns, GNd n) : Nice (dNds ns) := .tup (.map fun n hn => nice_nd (h n hn))
theorem nice_h {h : Nat} (hh : h ≤ 8) : Nice (.int (h : Nat)) := .int (Nat.le_trans (show ((h : Nat) : Int).natAbs ≤ 8 by omega) (by decide))
/-- what makes a tree -/
structure MkT (P : Program) (w : World) (K : PySem.W.Frag) (mg : Str → Option Value) (base : Heap) (k : Nat) (C B : Addr) where
  f : Addr
  fd : FuncData
  M : Mk K C f
  F : FnOk P w K mg base (CX P w) k f fd ["self", "height", "leaves", "nodes"] (spTree C B)
  g : mg "Tree" = some (.ref C)
  b : Binds K fd ["self", "height", "leaves", "nodes"] []
theorem pass_no {X : Cx} : Passes (CX X.prog X.w) X E0 := fun pins σ H s e s' I h => by
  obtain ⟨_, _, _, _, _, _, _, _, _, _, _, _, hE⟩ := h
  exact hE.elim
theorem DrT.gtr {b la na : Addr} {H : Hp} {h : Nat} {ls : List Lf} {ns : List Nd} (d : DrT h ls ns) : GTr h ls ns := by
  refine ⟨d.h8, d.l256, d.gl, d.nl, fun n hn => ?_⟩
  have r := d.gn n hn
  have h8 := d.h8
  have hl := d.l256
  exact ⟨by have := r.lh; omega, r.l1, r.b128 h8, r.k0, r.k1, r.le, fun j hj => by
    obtain ⟨_, z, hz⟩ := r.as j hj
    have := (List.getElem?_eq_some_iff.mp hz).1
    omega⟩
section
variable {K : PySem.W.Frag} {C B : Addr}
theorem mk_use {σ : St} {i : Nat} {p b : Addr} {h l n : V} {H : Hp} {Q : VK} (e : σ[i]? = some (some (.ref p))) (hp : H p = some (.lst [h, l, n])) (th : Thg b H h) (tl : Thg b H l) (tn : Thg b H n) (hb : badT H h l n = none)
    (q : ∀ H' x dx, Same H H' → H x = none → H' x = some (.ins C dx [("height", h), ("leaves", l), ("nodes", n)]) → Q (.ref x) H') : tMake C (spTree C B) [] E0 (tCons (tOp (rIxL K) (tVar i) (tC (.int 0))) (tCons (tOp (rIxL K) (tVar i) (tC (.int 1))) (tCons (tOp (rIxL K) (tVar i) (tC (.int 2))) tNil))) σ H Q := by
  refine ⟨_, e, p, _, _, h, rfl, rfl, .of hp, atI_nat (j := 0) rfl, _, e, p, _, _, l, rfl, rfl, .of hp, atI_nat (j := 1) rfl, _, e, p, _, _, n, rfl, rfl, .of hp, atI_nat (j := 2) rfl, fun x dx nx ndx ne => ?_⟩
  have s1 : Same H (upd (upd H dx (.own x)) x (.ins C dx [])) := (same_upd ndx).trans (same_upd (by rw [upd_ne (Ne.symm ne)]; exact nx))
  refine ⟨b, x, dx, h, l, n, rfl, upd_same, th.same s1, tl.same s1, tn.same s1, fun hn H' bl hx' => ⟨rfl, ?_⟩, fun z hz H' d sm nd ed => ?_⟩
  · have s3 : Same H H' := fun p o hp => bl p o (by
      intro hm
      rw [List.mem_singleton.mp hm, nx] at hp
      cases hp) (s1 _ _ hp)
    exact q H' x dx s3 nx hx'
  · rw [badT_bl tl tn (.same s1), hb] at hz
    cases hz
end
/-- repr of what is data -/
def rRepr (K : PySem.W.Frag) : List V → Hp → VK → Prop := fun xs H Q => ∃ (a : Addr) (d : PyData), xs = [.ref a] ∧ Dp K H (.ref a) d ∧ Nice d ∧ d.depth ≤ 40 ∧ d.bulk ≤ 306100 ∧ Q (.str d.shown) H
theorem call_repr {X : Cx} (hg : X.A.guards = some []) (hu : X.A.units + 64 < cLine) : CallR X (.builtin "repr") (rRepr X.K) := by
  intro pins s σ H xs us Q I r h
  obtain ⟨a, d, rfl, dp, nd, dd, db, q⟩ := h
  obtain ⟨u, rfl, ru⟩ : ∃ u, us = [u] ∧ RelV (.ref a) u := by
    cases r with
    | cons r1 rs => cases rs; exact ⟨_, rfl, r1⟩
  obtain rfl : u = Value.ref a := ru
  obtain ⟨as, rd⟩ := Dp.reads I d _ _ dp rfl
  exact PySem.repr_of_reads' rd nd.sh (fun z => by rw [nd.hd] at z; cases z) hg (by omega) (fun _ _ e => e) (fun h' u tk hk => ⟨.str d.shown, H, I.kept (t' := tk) hk, ⟨u, rfl⟩, q⟩) (fits_of nd db)
theorem low_str {z : Str} (h : z.cps.toList.all (fun c => decide (c < 128)) = true) : Nice (.str z) := .str fun c hc => of_decide_eq_true (List.all_eq_true.mp h c hc)
theorem any_nats (i : Nat) : ∀ l : List Nat, ((l.map fun (j : Nat) => PyData.int j).any fun y => PyData.eqv y (.int (i : Nat))) = decide (i ∈ l)
  | [] => rfl
  | y :: r => by
    rw [List.map_cons, List.any_cons, any_nats i r, eqv_int, ← Bool.decide_or]
    refine decide_eq_decide.mpr ?_
    rw [List.mem_cons]
    exact or_congr_left ⟨fun h => by omega, fun h => by omega⟩
theorem can_nats : ∀ l : List Nat, PyData.canLayAll0 (l.map fun (j : Nat) => PyData.int j) = true
  | [] => rfl
  | z :: r => by
    rw [List.map_cons, PyData.canLayAll0, can_nats r]
    rfl
theorem dep_nats : ∀ l : List Nat, PyData.depthAll (l.map fun (j : Nat) => PyData.int j) ≤ 1
  | [] => by decide
  | z :: r => by
    have := dep_nats r
    simp only [List.map_cons, PyData.depthAll, PyData.depth]
    omega
theorem shaped_nats (l : List Nat) : SeqAt.shaped (.list (l.map fun (j : Nat) => PyData.int j)) = true := by
  have h1 : PyData.canLay0 (.list (l.map fun (j : Nat) => PyData.int j)) = true := by rw [PyData.canLay0]; exact can_nats l
  have h2 := dep_nats l
  unfold SeqAt.shaped
  rw [h1, Bool.true_and]
  refine decide_eq_true ?_
  simp only [PyData.depth]
  omega
theorem shaped_int (i : Int) : SeqAt.shaped (.int i) = true := by
  unfold SeqAt.shaped
  rw [PyData.depth]
  rfl
end L2.My
end
section
set_option Elab.async false
set_option linter.all false
set_option maxRecDepth 100000
set_option maxHeartbeats 4000000
/-! check_leaf, path, beside, members. -/
namespace L2.My
open PySem PySem.Spec PyProof.Rows
abbrev sChk : Stmt := top 21
abbrev sPath : Stmt := top 22
abbrev sBes : Stmt := top 23
abbrev sMems : Stmt := top 26
/-- a def of the module that may be called and may raise -/
structure CalX (P : Program) (w : World) (K : PySem.W.Frag) (mg : Str → Option Value) (base : Heap) (k : Nat) (x : Str) (ps : List Str) (sp : Sp) where
  f : Addr
  fd : FuncData
  G : FnOk P w K mg base (CX P w) k f fd ps sp
  kp : PySem.W.keepIn K (.ref f) = true
  g : mg x = some (.ref f)
  b : Binds K fd ps []
section
variable {X : Cx} {k j : Nat} {x : Str} {ps : List Str} {sp : Sp} {C : Addr} {p pos apos : Pos} {e o : Expr} {es : List Expr} {t : TA} {to : TE} {E : XK} {W : WX}
theorem pe_cx (c : CalX X.prog X.w X.K X.mg X.base k x ps sp) (hr : Room j X.A) (hk : k ≤ j) (hg : Gl X x) (hx : Passes (CX X.prog X.w) X E) (ha : PA X (e :: es) t) (hdb : (x == ("__debug__" : Str)) = false := by decide)
    (he : starEach (e :: es) X.env = (false, eval e X.env) :: starEach es X.env := by rfl) (hpl : (backTo pos (starEach es X.env)).any (·.1) = false := by rfl) : PE X (.Call (.Name x p) (e :: es) [] pos) (tCall sp [] E t) :=
  pe_call c.G (hr.mono hk) hg c.g c.kp c.b .nil hx ha hdb he hpl
end
/-- an error without parts that may be raised -/
structure NoC (P : Program) (w : World) (K : PySem.W.Frag) (mg : Str → Option Value) (base : Heap) (x : Str) (N : Addr) : Prop where
  i : Ini0 P w K mg base N
  g : mg x = some (.ref N)
/-- pairs of numbers -/
def PrAt (H : Hp) (v : V) (p : Nat × Nat) : Prop := ∃ a, v = .ref a ∧ H a = some (.tup [.int (p.1 : Nat), .int (p.2 : Nat)])
theorem PrAt.tk {H H' : Hp} {v : V} {p : Nat × Nat} (h : PrAt H v p) (t : TK H H') : PrAt H' v p := by
  obtain ⟨a, rfl, h⟩ := h
  exact ⟨a, rfl, t _ _ h⟩
def PrsAt (H : Hp) (a : Addr) (l : List (Nat × Nat)) : Prop := ∃ vs, H a = some (.tup vs) ∧ Paired (PrAt H) vs l
theorem PrsAt.tk {H H' : Hp} {a : Addr} {l : List (Nat × Nat)} (h : PrsAt H a l) (t : TK H H') : PrsAt H' a l := by
  obtain ⟨vs, h1, h2⟩ := h
  exact ⟨vs, t _ _ h1, Paired.mapP h2 fun _ _ r => r.tk t⟩
def pathL (h j : Nat) : List (Nat × Nat) := (List.range h).map fun k => (k + 1, j / 2 ^ (k + 1))
def besL (h j : Nat) : List (Nat × Nat) := (List.range h).map fun k => (k, (j / 2 ^ k) ^^^ 1)
def memL (ls : List Lf) : List Nat := (List.range ls.length).filter fun j => (ls.getD j none).isSome
/-- a comprehension over a range that gives new pairs -/
theorem lcPr {lo : Int} {n : Nat} {g : TG} {te : TE} {vs : List Nat} {σ : St} {D : Addr} {Qd : Hp → Prop} {H1 : Hp} (f : Nat → Nat × Nat) (hn : n < sizeLine) (hD : H1 D = none)
    (hs : ∀ i H (Q' : VK), i < n → Same H1 H → (∀ p, H p = none → Q' (.ref p) (upd H p (.tup [.int ((f i).1 : Nat), .int ((f i).2 : Nat)]))) → g (.int (lo + i)) (wipe σ vs) H fun σ2 H2 => wipe σ2 vs = wipe σ vs ∧ te σ2 H2 Q')
    (hd : ∀ H us, Same H1 H → H D = some (.lst us) → Paired (PrAt H) us ((List.range n).map f) → Qd H) : CompOut (Itr lo n) g tYes te vs σ D Qd H1 := by
  refine lc_it (walk_range (lo := lo)) (tt := tYes) (fun i H => Same H1 H ∧ ∃ us, H D = some (.lst us) ∧ us.length = i ∧ Paired (PrAt H) us ((List.range i).map f)) ⟨same_upd hD, [], upd_same, rfl, .nil⟩ (fun _ _ _ _ => trivial) ?_ (fun H ⟨s, us, h1, h2, h3⟩ => hd H us s h1 h3)
  rintro i x H H' hi ⟨s, us, hus, hl, hp⟩ ⟨rfl, rfl⟩
  refine hs i _ _ hi s fun p np => ?_
  have s2 := same_upd (o := HO.tup [.int ((f i).1 : Nat), .int ((f i).2 : Nat)]) np
  have hu := s2 _ _ hus
  refine ⟨us, hu, by omega, same_put (s.trans s2) hD, us ++ [.ref p], upd_same, by rw [List.length_append, hl]; rfl, ?_⟩
  have tk : TK H' (upd (upd H' p (.tup [.int ((f i).1 : Nat), .int ((f i).2 : Nat)])) D (.lst (us ++ [.ref p]))) := (TK.same s2).trans (.upd hu (fun _ e => by cases e))
  have npD : p ≠ D := fun e => by rw [e, hus] at np; cases np
  rw [List.range_succ, List.map_append]
  exact Paired.snoc (Paired.mapP hp fun _ _ r => r.tk tk) ⟨p, rfl, by rw [upd_ne npD, upd_same]⟩
/-- a good tree's facts, as calls want them -/
def TrIn (C : Addr) (H : Hp) (x : Addr) (h : Nat) (ls : List Lf) (ns : List Nd) : Prop := ∃ dx la na, TreeAt H C x dx la na h ls ns
theorem TrIn.tk {C : Addr} {H H' : Hp} {x : Addr} {h : Nat} {ls : List Lf} {ns : List Nd} (t : TrIn C H x h ls ns) (k : TK H H') (e : H' x = H x) : TrIn C H' x h ls ns := by
  obtain ⟨dx, la, na, h1, h2, h3⟩ := t
  exact ⟨dx, la, na, e.trans h1, h2.tk k, h3.tk k⟩
theorem TrIn.same {C : Addr} {H H' : Hp} {x : Addr} {h : Nat} {ls : List Lf} {ns : List Nd} (t : TrIn C H x h ls ns) (s : Same H H') : TrIn C H' x h ls ns := by
  have t' := t
  obtain ⟨dx, la, na, h1, h2, h3⟩ := t'
  exact t.tk (.same s) ((s _ _ h1).trans h1.symm)
def spChk (C NL : Addr) : Sp := fun vs H Q E => ∃ b x h ls ns v, vs = [.ref x, v] ∧ TrIn C H x h ls ns ∧ DrT h ls ns ∧ Thg b H v ∧ (belowV (ls.length : Int) v = true → Q .non H) ∧ (belowV (ls.length : Int) v = false → E (.ref NL) none H)
def spWay (C NL : Addr) (f : Nat → Nat → List (Nat × Nat)) : Sp := fun vs H Q E => ∃ b x h ls ns v, vs = [.ref x, v] ∧ TrIn C H x h ls ns ∧ DrT h ls ns ∧ Thg b H v ∧ (belowV (ls.length : Int) v = true → ∀ H' t, Same H H' → PrsAt H' t (f h (iV v)) → Q (.ref t) H') ∧ (belowV (ls.length : Int) v = false → E (.ref NL) none H)
def spMems (C : Addr) : Sp := fun vs H Q _ => ∃ x h ls ns, vs = [.ref x] ∧ TrIn C H x h ls ns ∧ DrT h ls ns ∧ ∀ H' t, Same H H' → H' t = some (.tup (nN (memL ls))) → Q (.ref t) H'
section
variable {P : Program} {w : World} {K : PySem.W.Frag} {mg : Str → Option Value} {base : Heap} {C NL : Addr}
theorem scChk : FnScope ["tree", "leaf"] ["tree", "leaf"] (defScope sChk) := ⟨rfl, rfl, rfl, by decide +kernel, rfl, by decide +kernel, by decide +kernel⟩
theorem ok_chk {f : Addr} {fd : FuncData} {k : Nat} (F : Fun K "check_leaf" "check_leaf" sChk f fd) (T : Tx mg) (c : TrC K C) (N : NoC P w K mg base "NoLeaf" NL) (cB : Cal P w K mg base (k + 2) "is_below" ["bound", "thing"] spBelow) : FnOk P w K mg base (CX P w) (k + 3) f fd ["tree", "leaf"] (spChk C NL) := by
  refine F.okX scChk (fun vs H Q E h => ?_) (fun cdv A outer s H vs Q E hr h => ?_)
  · obtain ⟨b, x, h, ls, ns, v, rfl, _⟩ := h
    rfl
  · obtain ⟨b, x, h, ls, ns, v, rfl, ⟨dx, la, na, hx, ⟨xs, hla, hp⟩, hN⟩, d, hv, q, qe⟩ := h
    have tk := takes_of (X := cxOf (CX P w) P w K mg base ["tree", "leaf"] "check_leaf" (defScope sChk) f cdv A outer s H E) (E := E) rfl rfl rfl rfl
    refine ⟨_, (pss_one (ps_if (pt_not (pt_val (pe_c cB hr (by omega) (by rfl) (pa_cons (pe_callB call_len_seq (by rfl) T.len_ PySem.boot_len (pa_cons (pe_fld (pv 0) rfl) pa_nil)) (pa_cons (pv 1) pa_nil))))) (pss_one (ps_raise rfl tk (pmk_no N.i rfl (hr.mono (by omega)) (by rfl) N.g))) pss_nil)), ?_⟩
    have hl := Paired.len hp
    refine ⟨_, rfl, x, C, dx, _, _, rfl, hx, c.cls, c.na _ (by simp), rfl, la, xs, rfl, .inr (.of hla), _, rfl, b, _, v, rfl, hv, _, rfl, ?_⟩
    rw [hl]
    cases hb : belowV (ls.length : Int) v with
    | true => exact iteF (q hb)
    | false => exact iteT ⟨fun _ h => h, qe hb⟩
theorem scPath : FnScope ["tree", "leaf", "level"] ["tree", "leaf"] (defScope sPath) := ⟨rfl, rfl, rfl, by decide +kernel, rfl, by decide +kernel, by decide +kernel⟩
theorem ok_path {f : Addr} {fd : FuncData} {k : Nat} (F : Fun K "path" "path" sPath f fd) (T : Tx mg) (c : TrC K C) (cC : CalX P w K mg base (k + 3) "check_leaf" ["tree", "leaf"] (spChk C NL)) : FnOk P w K mg base (CX P w) (k + 4) f fd ["tree", "leaf"] (spWay C NL pathL) := by
  refine F.okX scPath (fun vs H Q E h => ?_) (fun cdv A outer s H vs Q E hr h => ?_)
  · obtain ⟨b, x, h, ls, ns, v, rfl, _⟩ := h
    rfl
  · obtain ⟨b, x, h, ls, ns, v, rfl, hT, d, hv, q, qe⟩ := h
    have tk := takes_of (X := cxOf (CX P w) P w K mg base ["tree", "leaf", "level"] "path" (defScope sPath) f cdv A outer s H E) (E := E) rfl rfl rfl rfl
    refine ⟨_, (pss_cons (ps_expr (pe_cx cC hr (by omega) (by rfl) (passes_call tk (E := E) fun _ _ _ _ h => h) (pa_cons (pv 0) (pa_cons (pv 1) pa_nil)))) (pss_one (ps_ret (pe_tupleOf (by rfl) T.tuple_ (pe_lc (own := [("level", 2)]) (g := gName 2) rfl scPath.nd (pi_range2 (by rfl) T.range_ (pa_cons pe_int (pa_cons (pe_op op_add (pe_fld (pv 0) rfl) pe_int) pa_nil))) (blkOk_by (N := ["tree", "leaf", "level"]) (sc := defScope sPath) (by decide +kernel)) (fun _ _ _ _ _ => pg_name (i := 2) scPath.nd rfl (Or.inl rfl)) (fun _ _ _ _ _ => pts_nil) (fun _ _ _ _ _ => (pe_tup (pa_cons (pv 2) (pa_cons (pe_op op_shr (pv 1) (pv 2)) pa_nil))))))))), ?_⟩
    obtain ⟨dx, la, na, hx, hL, hN⟩ := id hT
    have h8 := d.h8
    refine ⟨_, rfl, _, rfl, b, x, h, ls, ns, v, rfl, hT, d, hv, fun hb => ?_, qe⟩
    obtain ⟨b1, b2, _⟩ := below_int hb
    have q2 := q hb
    generalize iV v = j at *
    subst b1
    refine ⟨_, rfl, x, C, dx, _, _, rfl, hx, c.cls, c.na _ (by simp), rfl, _, _, rfl, rfl, _, _, rfl, ⟨by decide, by decide, by omega, by omega⟩, fun D nD => ?_⟩
    refine lcPr (fun k => (k + 1, j / 2 ^ (k + 1))) (Nat.lt_of_le_of_lt (show (((h : Nat) : Int) + 1 - 1).toNat ≤ 8 by omega) (by decide)) nD ?_ ?_
    · intro i G Q' hi s1 hq
      refine ⟨rfl, _, rfl, _, rfl, _, rfl, _, _, rfl, rfl, by omega, by show 2 ≤ sizeLine; decide, fun p np => ?_⟩
      have e1 : (1 + (i : Int)) = ((i + 1 : Nat) : Int) := by omega
      have e2 : ((j : Nat) : Int) / 2 ^ (1 + (i : Int)).toNat = ((j / 2 ^ (i + 1) : Nat) : Int) := by
        rw [e1, Int.toNat_natCast]
        push_cast
        rfl
      have := hq p np
      dsimp only at this ⊢
      rw [e2, e1]
      exact this
    · intro G us s1 hD hpu
      refine .inl ⟨D, us, rfl, .of hD, fun t nt => q2 _ t (s1.trans (same_upd nt)) ⟨us, upd_same, ?_⟩⟩
      have e : (((h : Nat) : Int) + 1 - 1).toNat = h := by omega
      rw [e] at hpu
      exact Paired.mapP hpu fun _ _ r => r.tk (.same (same_upd nt))
theorem scBes : FnScope ["tree", "leaf", "level"] ["tree", "leaf"] (defScope sBes) := ⟨rfl, rfl, rfl, by decide +kernel, rfl, by decide +kernel, by decide +kernel⟩
theorem ok_bes {f : Addr} {fd : FuncData} {k : Nat} (F : Fun K "beside" "beside" sBes f fd) (T : Tx mg) (c : TrC K C) (cC : CalX P w K mg base (k + 3) "check_leaf" ["tree", "leaf"] (spChk C NL)) : FnOk P w K mg base (CX P w) (k + 4) f fd ["tree", "leaf"] (spWay C NL besL) := by
  refine F.okX scBes (fun vs H Q E h => ?_) (fun cdv A outer s H vs Q E hr h => ?_)
  · obtain ⟨b, x, h, ls, ns, v, rfl, _⟩ := h
    rfl
  · obtain ⟨b, x, h, ls, ns, v, rfl, hT, d, hv, q, qe⟩ := h
    have tk := takes_of (X := cxOf (CX P w) P w K mg base ["tree", "leaf", "level"] "beside" (defScope sBes) f cdv A outer s H E) (E := E) rfl rfl rfl rfl
    refine ⟨_, (pss_cons (ps_expr (pe_cx cC hr (by omega) (by rfl) (passes_call tk (E := E) fun _ _ _ _ h => h) (pa_cons (pv 0) (pa_cons (pv 1) pa_nil)))) (pss_one (ps_ret (pe_tupleOf (by rfl) T.tuple_ (pe_lc (own := [("level", 2)]) (g := gName 2) rfl scBes.nd (pi_range1 (by rfl) T.range_ (pa_cons (pe_fld (pv 0) rfl) pa_nil)) (blkOk_by (N := ["tree", "leaf", "level"]) (sc := defScope sBes) (by decide +kernel)) (fun _ _ _ _ _ => pg_name (i := 2) scBes.nd rfl (Or.inl rfl)) (fun _ _ _ _ _ => pts_nil) (fun _ _ _ _ _ => (pe_tup (pa_cons (pv 2) (pa_cons (pe_op op_xor (pe_op op_shr (pv 1) (pv 2)) pe_int) pa_nil))))))))), ?_⟩
    obtain ⟨dx, la, na, hx, hL, hN⟩ := id hT
    have h8 := d.h8
    refine ⟨_, rfl, _, rfl, b, x, h, ls, ns, v, rfl, hT, d, hv, fun hb => ?_, qe⟩
    obtain ⟨b1, b2, _⟩ := below_int hb
    have q2 := q hb
    generalize iV v = j at *
    subst b1
    refine ⟨_, rfl, x, C, dx, _, _, rfl, hx, c.cls, c.na _ (by simp), rfl, _, rfl, by omega, by omega, fun D nD => ?_⟩
    refine lcPr (fun k => (k, (j / 2 ^ k) ^^^ 1)) (Nat.lt_of_le_of_lt (show ((h : Nat) : Int).toNat ≤ 8 by omega) (by decide)) nD ?_ ?_
    · intro i G Q' hi s1 hq
      refine ⟨rfl, _, rfl, _, rfl, _, rfl, _, _, rfl, rfl, by omega, _, _, rfl, rfl, by show 2 ≤ sizeLine; decide, fun p np => ?_⟩
      have e1 : (0 + (i : Int)) = ((i : Nat) : Int) := by omega
      have e2 : ((j : Nat) : Int) / 2 ^ (0 + (i : Int)).toNat = ((j / 2 ^ i : Nat) : Int) := by
        rw [e1, Int.toNat_natCast]
        push_cast
        rfl
      have e3 : Builtin.bitXor ((j / 2 ^ i : Nat) : Int) 1 = (((j / 2 ^ i) ^^^ 1 : Nat) : Int) := by
        rw [Bits.bitXor_pp (Int.natCast_nonneg _) (by decide), Int.toNat_natCast]
        rfl
      have := hq p np
      dsimp only at this ⊢
      rw [e2, e3, e1]
      exact this
    · intro G us s1 hD hpu
      refine .inl ⟨D, us, rfl, .of hD, fun t nt => q2 _ t (s1.trans (same_upd nt)) ⟨us, upd_same, ?_⟩⟩
      have e : ((h : Nat) : Int).toNat = h := by omega
      rw [e] at hpu
      exact Paired.mapP hpu fun _ _ r => r.tk (.same (same_upd nt))
theorem scMems : FnScope ["tree", "leaf", "member"] ["tree"] (defScope sMems) := ⟨rfl, rfl, rfl, by decide +kernel, rfl, by decide +kernel, by decide +kernel⟩
theorem ok_mems {f : Addr} {fd : FuncData} {k : Nat} (F : Fun K "members" "members" sMems f fd) (T : Tx mg) (c : TrC K C) (hen : mg "enumerate" = none) : FnOk P w K mg base CX0 (k + 1) f fd ["tree"] (spMems C) := by
  refine F.ok scMems (fun vs H Q E h => ?_) (fun cdv A outer s H vs Q E hr h => ?_)
  · obtain ⟨x, h, ls, ns, rfl, _⟩ := h
    rfl
  · obtain ⟨x, h, ls, ns, rfl, ⟨dx, la, na, hx, ⟨xs, hla, hp⟩, hN⟩, d, q⟩ := h
    refine ⟨_, (pss_one (ps_ret (pe_tupleOf (by rfl) T.tuple_ (pe_lc (own := [("leaf", 1), ("member", 2)]) (g := gTup K 2 (gCons (gName 1) (gCons (gName 2) gNil))) (te := tVar 1) (tt := tTest (tOp rNotN (tVar 2) (tC .non))) rfl scMems.nd (pi_enT (by rfl) hen (pa_cons (pe_fld (pv 0) rfl) pa_nil)) (blkOk_by (N := ["tree", "leaf", "member"]) (sc := defScope sMems) (by decide +kernel)) (fun _ _ _ _ _ => (pg_tup rfl (pgs_cons (pg_name (i := 1) scMems.nd rfl (Or.inl rfl)) (pgs_cons (pg_name (i := 2) scMems.nd rfl (Or.inl rfl)) pgs_nil)))) (fun _ _ _ _ _ => (pts_one (pt_cmpR op_notN (pv 2) pe_non (nomark _)))) (fun _ _ _ _ _ => (pv 1)))))), ?_⟩
    have hl := Paired.len hp
    have l256 := d.l256
    refine ⟨_, rfl, x, C, dx, _, _, rfl, hx, c.cls, c.na _ (by simp), rfl, ?_⟩
    refine ⟨la, xs, rfl, .of hla, fun D nD => ?_⟩
    refine lc_it walk_enT (fun i G => Same H G ∧ G D = some (.lst (nN ((List.range i).filter fun j => (ls.getD j none).isSome)))) ⟨same_upd nD, upd_same⟩ (fun i G _ hG => .of (hG.1 _ _ hla)) ?_ ?_
    · rintro i v G G' hi ⟨sm, hD⟩ ⟨p, u1, u2, rfl, np, rfl, e1, e2⟩
      cases Option.some.inj e1
      have e2' : xs[i]? = some u2 := e2
      have s1 : Same G (upd G p (.tup [.int (i : Nat), u2])) := same_upd np
      have hD1 := s1 _ _ hD
      obtain ⟨l, h1, h2⟩ := Paired.at' hp e2'
      have eg : ls.getD i none = l := by rw [List.getD_eq_getElem?_getD, h1]; rfl
      refine ⟨p, _, rfl, .of upd_same, rfl, _, _, rfl, _, _, rfl, rfl, rfl, _, rfl, rfl, _, rfl, ?_⟩
      rw [nonN, lf_non h2, List.range_succ, List.filter_append]
      cases hs : l.isSome with
      | false =>
        refine iteF ⟨sm.trans s1, ?_⟩
        rw [List.filter_cons_of_neg (by rw [eg, hs]; exact Bool.false_ne_true), List.filter_nil, List.append_nil]
        exact hD1
      | true =>
        refine iteT ⟨_, rfl, _, hD1, ?_, same_put (sm.trans s1) nD, ?_⟩
        · rw [nN_len]
          exact Nat.lt_of_le_of_lt (show ((List.range i).filter fun j => (ls.getD j none).isSome).length ≤ 256 from Nat.le_trans (List.length_filter_le _ _) (by rw [List.length_range]; omega)) (by decide)
        · rw [List.filter_cons_of_pos (by rw [eg]; exact hs), List.filter_nil, upd_same]
          unfold nN
          rw [List.map_append]
          rfl
    · rintro G ⟨sm, hD⟩
      refine .inl ⟨D, _, rfl, .of hD, fun t nt => q _ t (sm.trans (same_upd nt)) ?_⟩
      rw [upd_same, hl]
      rfl
end
end L2.My
end
section
set_option Elab.async false
set_option linter.all false
set_option maxRecDepth 100000
set_option maxHeartbeats 4000000
/-! kept_nodes. -/
namespace L2.My
open PySem PySem.Spec PyProof.Rows
abbrev sKn : Stmt := top 24
def nkey (p : Nat × Nat) : List Key := [.inl (p.1 : Nat), .inl (p.2 : Nat)]
theorem nkey_inj {p q : Nat × Nat} (h : nkey p = nkey q) : p = q := by
  obtain ⟨a, b⟩ := p
  obtain ⟨c, d⟩ := q
  unfold nkey at h
  simp only [List.cons.injEq, Sum.inl.injEq, Int.natCast_inj, and_true] at h
  rw [h.1, h.2]
def fnd (ns : List Nd) (p : Nat × Nat) : Option Nd := ns.find? fun n => decide (n.1 = p)
def KvR (H : Hp) (o : Option V) (n : Option Nd) : Prop := match n with
  | none => o = none
  | some n => ∃ a ca, o = some (.ref a) ∧ H a = some (.tup [.int n.2.1, .ref ca]) ∧ H ca = some (.tup (nN n.2.2))
theorem KvR.tk {H H' : Hp} {o : Option V} {n : Option Nd} (h : KvR H o n) (t : TK H H') : KvR H' o n := by
  cases n with
  | none => exact h
  | some n => obtain ⟨a, ca, h1, h2, h3⟩ := h; exact ⟨a, ca, h1, t _ _ h2, t _ _ h3⟩
def KpM (H : Hp) (kvs : List (List Key × V)) (ns : List Nd) : Prop := ∀ p, KvR H (valV kvs (nkey p)) (fnd ns p)
def KpAt (H : Hp) (D : Addr) (ns : List Nd) : Prop := ∃ kvs, H D = some (.dT kvs) ∧ KpM H kvs ns
theorem KpAt.same {H H' : Hp} {D : Addr} {ns : List Nd} (h : KpAt H D ns) (s : Same H H') : KpAt H' D ns := by
  obtain ⟨kvs, h1, h2⟩ := h
  exact ⟨kvs, s _ _ h1, fun p => (h2 p).tk (.same s)⟩
/-! ### the nodes of a tree are all different -/
theorem asc_nodup : ∀ {l : List Int}, ascBy ltI l = true → l.Nodup
  | [], _ => List.nodup_nil
  | x :: r, h => List.nodup_cons.mpr ⟨fun z => by have := asc_gt h x z; omega, asc_nodup (asc_tail h)⟩
theorem DrT.nodup {h : Nat} {ls : List Lf} {ns : List Nd} (d : DrT h ls ns) : (ns.map (·.1)).Nodup := by
  have h1 := asc_map (lt := HT.lexLt) (lt2 := ltI) (f := codeI) (l := ns.map nI2) (fun x hx y hy hl => by
    obtain ⟨m, hm, rfl⟩ := List.mem_map.mp hx
    obtain ⟨n, hn, rfl⟩ := List.mem_map.mp hy
    have b1 := (d.gn m hm).b128 d.h8
    have b2 := (d.gn n hn).b128 d.h8
    exact decide_eq_true (code_lt (by omega) (by omega) (by omega) (by omega) hl)) d.asc
  have h2 := asc_nodup h1
  rw [List.map_map] at h2
  have e : ns.map (codeI ∘ nI2) = (ns.map (·.1)).map fun p => codeI [((p.1 : Nat) : Int), ((p.2 : Nat) : Int)] := by
    rw [List.map_map]
    rfl
  rw [e] at h2
  exact (List.pairwise_map.mp h2).imp fun hne e => hne (by rw [e])
theorem fnd_snoc {ns : List Nd} {n : Nd} (h : n.1 ∉ ns.map (·.1)) (p : Nat × Nat) : fnd (ns ++ [n]) p = if p = n.1 then some n else fnd ns p := by
  unfold fnd
  rw [List.find?_append]
  by_cases e : p = n.1
  · rw [if_pos e]
    have : ns.find? (fun m => decide (m.1 = p)) = none := by
      rw [List.find?_eq_none]
      intro m hm z
      exact h (List.mem_map.mpr ⟨m, hm, (of_decide_eq_true z).trans e⟩)
    rw [this, Option.none_or, List.find?_cons_of_pos (by rw [e]; exact decide_eq_true rfl)]
  · rw [if_neg e, List.find?_cons_of_neg (by rw [decide_eq_true_eq]; exact fun z => e z.symm)]
    cases ns.find? (fun m => decide (m.1 = p)) <;> rfl
theorem fnd_some {ns : List Nd} {p : Nat × Nat} {n : Nd} (h : fnd ns p = some n) : n ∈ ns ∧ n.1 = p := by
  have h' : ns.find? (fun n => decide (n.1 = p)) = some n := h
  have h2 := List.find?_some h'
  exact ⟨List.mem_of_find?_eq_some h', of_decide_eq_true h2⟩
def spKn (C : Addr) : Sp := fun vs H Q _ => ∃ x h ls ns, vs = [.ref x] ∧ TrIn C H x h ls ns ∧ DrT h ls ns ∧ ∀ H' D, Same H H' → KpAt H' D ns → Q (.ref D) H'
section
variable {P : Program} {w : World} {K : PySem.W.Frag} {mg : Str → Option Value} {base : Heap} {C NL : Addr}
theorem dcT_it {J : It} {n : Nat} {G : Hp → Prop} {Y : Nat → Hp → V → Hp → Prop} (w : Walk J n G Y) {g : TG} {tt : TT} {tk tv : TE} {vs : List Nat} {σ : St} {H1 : Hp} {D : Addr} {Qd : Hp → Prop} (Pv : Nat → Hp → Prop) (h0 : Pv 0 (upd H1 D (.dT []))) (hG : ∀ i H, i ≤ n → Pv i H → G H)
    (hs : ∀ i x H H', i < n → Pv i H → Y i H x H' → g x (wipe σ vs) H' fun σ2 H2 => wipe σ2 vs = wipe σ vs ∧ tt σ2 H2 fun b H3 =>
      if b = true then tk σ2 H3 fun y H4 => tv σ2 H4 fun z H5 => ∃ kvs k b, y = .ref b ∧ H5 D = some (.dT kvs) ∧ H5 b = some (.tup (k.map kV)) ∧ kvs.length < sizeLine ∧ Pv (i + 1) (upd H5 D (.dT (putK kvs k z))) else Pv (i + 1) H3)
    (hd : ∀ H, Pv n H → Qd H) : ∃ W : Nat → Nat → Hp → Prop, (∃ m, W 0 m (upd H1 D (.dT []))) ∧ ∀ i m H, W i m H →
      (J.stop i H ∧ Qd H) ∨ (J.go i H ∧ ∃ Nx : Hp → Prop, (∀ H', Nx H' → ∃ m', m' < m ∧ W (i + 1) m' H') ∧ ∀ x H', J.yld i H x H' → g x (wipe σ vs) H' fun σ2 H2 => wipe σ2 vs = wipe σ vs ∧ tt σ2 H2 fun b H3 =>
        if b = true then tk σ2 H3 fun y H4 => tv σ2 H4 fun z H5 => ∃ kvs k b, y = .ref b ∧ H5 D = some (.dT kvs) ∧ H5 b = some (.tup (k.map kV)) ∧ kvs.length < sizeLine ∧ Nx (upd H5 D (.dT (putK kvs k z))) else Nx H3) := by
  refine ⟨fun i m H => i + m = n ∧ Pv i H, ⟨n, by omega, h0⟩, fun i m H ⟨e, h⟩ => ?_⟩
  have gi := hG i H (by omega) h
  by_cases hi : i < n
  · exact .inr ⟨w.goes i H hi gi, fun H' => Pv (i + 1) H', fun H' h' => ⟨m - 1, by omega, by omega, h'⟩, fun x H' y => hs i x H H' hi h (w.yields i H x H' hi gi y)⟩
  · obtain rfl : i = n := by omega
    exact .inl ⟨w.stops H gi, hd H h⟩
abbrev nKn : List Str := ["tree", "node", "lock", "aside"]
theorem scKn : FnScope nKn ["tree"] (defScope sKn) := ⟨rfl, rfl, rfl, by decide +kernel, rfl, by decide +kernel, by decide +kernel⟩
theorem ok_kn {f : Addr} {fd : FuncData} {k : Nat} (F : Fun K "kept_nodes" "kept_nodes" sKn f fd) (T : Tx mg) (c : TrC K C) : FnOk P w K mg base CX0 (k + 1) f fd ["tree"] (spKn C) := by
  refine F.ok scKn (fun vs H Q E h => ?_) (fun cdv A outer s H vs Q E hr h => ?_)
  · obtain ⟨x, h, ls, ns, rfl, _⟩ := h
    rfl
  · obtain ⟨x, h, ls, ns, rfl, ⟨dx, la, na, hx, hL, ⟨ws, hna, hp⟩⟩, d, q⟩ := h
    refine ⟨_, (pss_one (ps_ret (pe_dcT (own := [("node", 1), ("lock", 2), ("aside", 3)]) (g := gTup K 3 (gCons (gName 1) (gCons (gName 2) (gCons (gName 3) gNil)))) (tk := tVar 1) (tv := tTup (tCons (tVar 2) (tCons (tVar 3) tNil))) (u2 hr) rfl scKn.nd (pi_tup (pe_fld (pv 0) rfl)) (blkOk_by (N := nKn) (sc := defScope sKn) (by decide +kernel)) (fun _ _ _ _ _ => (pg_tup rfl (pgs_cons (pg_name (i := 1) scKn.nd rfl (Or.inl rfl)) (pgs_cons (pg_name (i := 2) scKn.nd rfl (Or.inl rfl)) (pgs_cons (pg_name (i := 3) scKn.nd rfl (Or.inl rfl)) pgs_nil))))) (fun _ _ _ _ _ => pts_nil) (fun _ _ _ _ _ => (pv 1)) (fun _ _ _ _ _ => (pe_tup (pa_cons (pv 2) (pa_cons (pv 3) pa_nil))))))), ?_⟩
    have hl := Paired.len hp
    have hnl := d.nl
    have hnd := d.nodup
    refine ⟨_, rfl, x, C, dx, _, _, rfl, hx, c.cls, c.na _ (by simp), rfl, na, rfl, ⟨_, .of hna⟩, fun D nD => ?_⟩
    refine dcT_it (walk_tup (xs := ws)) (fun i G => Same H G ∧ ∃ kvs, G D = some (.dT kvs) ∧ kvs.length ≤ i ∧ KpM G kvs (ns.take i)) ⟨same_upd nD, [], upd_same, Nat.le_refl _, fun p => by rw [List.take_zero]; rfl⟩ (fun i G _ hG => .of (hG.1 _ _ hna)) ?_ ?_
    · rintro i v G G' hi ⟨sm, kvs, hD, hkl, hk⟩ ⟨rfl, hv⟩
      obtain ⟨n, hn, a, nda, ca, rfl, h1, h2, h3⟩ := Paired.at' hp hv
      refine ⟨a, _, rfl, .of (sm _ _ h1), rfl, _, _, rfl, _, _, rfl, _, _, rfl, rfl, rfl, ?_⟩
      refine ⟨_, rfl, _, rfl, _, rfl, by show 2 ≤ sizeLine; decide, fun t nt => ?_⟩
      have s1 := same_upd (o := HO.tup [.int n.2.1, .ref ca]) nt
      have hD1 := s1 _ _ hD
      have ht : (upd G' t (.tup [.int n.2.1, .ref ca])) t = some (.tup [.int n.2.1, .ref ca]) := upd_same
      refine ⟨kvs, nkey n.1, nda, rfl, hD1, s1 _ _ (sm _ _ h2), Nat.lt_of_le_of_lt (show kvs.length ≤ 1152 by omega) (by decide), same_put (sm.trans s1) nD, _, upd_same, ?_, fun p => ?_⟩
      · unfold putK
        split
        · rw [List.length_map]; omega
        · rw [List.length_append, List.length_singleton]; omega
      · have hnot : n.1 ∉ (ns.take i).map (·.1) := by
          rw [List.map_take]
          intro z
          obtain ⟨j, hj⟩ := List.getElem?_of_mem z
          have hji : j < i := by
            have := (List.getElem?_eq_some_iff.mp hj).1
            rw [List.length_take] at this
            omega
          rw [List.getElem?_take, if_pos hji] at hj
          have hi2 : (ns.map (·.1))[i]? = some n.1 := by rw [List.getElem?_map, hn]; rfl
          have := (List.getElem?_inj (h₀ := (List.getElem?_eq_some_iff.mp hj).1) hnd).mp (hj.trans hi2.symm)
          omega
        rw [valV_put, take_snoc hn, fnd_snoc hnot]
        have tk : TK G' (upd (upd G' t (.tup [.int n.2.1, .ref ca])) D (.dT (putK kvs (nkey n.1) (.ref t)))) := (TK.same s1).trans (.upd hD1 (fun _ e => by cases e))
        by_cases e : p = n.1
        · rw [if_pos (by rw [e]), if_pos e]
          have ntD : t ≠ D := fun z => by rw [z, hD] at nt; cases nt
          exact ⟨t, ca, rfl, by rw [upd_ne ntD]; exact ht, tk _ _ (sm _ _ h3)⟩
        · rw [if_neg (fun z => e (nkey_inj z)), if_neg e]
          exact (hk p).tk tk
    · rintro G ⟨sm, kvs, hD, _, hk⟩
      rw [hl, List.take_length] at hk
      exact q G D sm ⟨kvs, hD, hk⟩
end
end L2.My
end
section
set_option Elab.async false
set_option linter.all false
set_option maxRecDepth 100000
set_option maxHeartbeats 4000000
/-! A for in whose body something is raised. -/
namespace L2.My
open PySem PySem.Spec PyProof.Rows
section
variable {X : Cx} {W : WX}
theorem dict_mapF (f : Array Value → Array Value) (o : Obj) : (Obj.mapFields f o).dict = o.dict := by
  unfold Obj.mapFields
  first | rfl | (split <;> rfl)
theorem zc_steady (cls : Value) (d : Option Addr) : PySem.HandSPX.Steady (Zc cls d) := fun o f h => ⟨(Obj.cls_mapFields ..).trans h.1, (dict_mapF f o).trans h.2⟩
theorem passes_xe (hs : X.stack = X.env :: X.outer) (hf : X.env.frame = some X.env.locals) : PassesOwn (model X.prog X.w) X.A X.env (XE X W) := by
  intro u s' x
  obtain ⟨a, B, sI, pins, σ, H, cls, d, rfl, I, hB, hu, hsky, ha, hos, hb, hw⟩ := x
  have fr := I.ok.frames
  rw [hs] at fr
  have key : ∀ h', PySem.HandSPX.HeldZ B X.stack a (Zc cls d) X.env.locals h' → sI.heap.UpToSlots h' → cameBackBy (model X.prog X.w) X.A X.env (XE X W) (.ref a) { s' with heap := h' } := by
    intro h' hh hu'
    unfold cameBackBy
    obtain ⟨b1, b2, b3, oe, vs, T, oT, ts, e1, e2, e3, e4, e5⟩ := id hh
    refine wpAny_bind (wpAny_field e1 e3 e4 ?_)
    have e0 : (Value.ref T == Value.none) = false := rfl
    simp only [e0, Bool.false_eq_true, if_false]
    rw [hf]
    exact PySem.HandSPX.setFlight_onZ hh fun h'' hh' hu'' => ⟨a, B, sI, pins, σ, H, cls, d, rfl, I, hB, hu'.trans hu'', .inr (.inr hh'), ha, hos, hb, hw⟩
  show wpAny _ _ (noteFrame (.ref a) X.env) (fun _ s'' => cameBackBy _ _ X.env (XE X W) (.ref a) s'') _ s'
  rcases hsky with ⟨k1, k2, k3, oe, vs, k4, k5, k6, k7⟩ | k | k
  · rw [hs] at k3
    exact PySem.HandSPX.look_newZ (zc_steady cls d) fr k3 hf k4 k1 k2 k6 k7 k5 fun h' hh hu' => key h' (by rw [hs]; exact hh) (hu.trans hu')
  · rw [hs] at k
    exact PySem.HandSPX.looks_onZ (zc_steady cls d) fr hf k fun h' hh hu' => key h' (by rw [hs]; exact hh) (hu.trans hu')
  · exact PySem.HandSPX.againZ hf k.2.2.2 (key _ k hu)
theorem takes_wish : Takes (X.wish (XE X W)) W := by
  intro u s' x
  obtain ⟨a, B, sI, pins, σ, H, cls, d, rfl, I, r⟩ := x
  exact ⟨a, B, sI, pins, σ, H, cls, d, rfl, I.unwish, r⟩
/-- a for whose body may raise: within, what is raised is wished for by W -/
theorem ps_forR {tg iter : Expr} {body : List Stmt} {wi : TI} {g : TG} {tb : TS} {pos : Pos} (hs : X.stack = X.env :: X.outer) (hf : X.env.frame = some X.env.locals) (hc : X.calm = true) (tk : Takes X W)
    (hi : PI (X.wish (XE X W)) tg iter wi) (hg : PG (X.wish (XE X W)) tg g) (hb : PSs (X.wish (XE X W)) body tb) (hx : ∀ x, foldedSetIterable iter X.env x = pure x := by intro _; rfl) : PS X (.For tg iter body [] pos) (tFor wi g tb) := by
  refine ⟨fun pins s σ H D I h => ?_⟩
  refine wpAny_mono ((ps_for (X := X.wish (XE X W)) (passes_xe hs hf) hc hi hg hb hx).run pins s σ H D (I.wish _) h) (fun q s1 z => ?_) fun e s1 x => tk e s1 x
  exact z.unwish
/-- a while in a def that may raise elsewhere -/
theorem ps_whileR {c : Expr} {body : List Stmt} {tc : TT} {tb : TS} {pos : Pos} (hs : X.stack = X.env :: X.outer) (hf : X.env.frame = some X.env.locals) (tk : Takes X W)
    (hc : PT (X.wish (XE X W)) c tc) (hb : PSs (X.wish (XE X W)) body tb) : PS X (.While c body [] pos) (tWhile tc tb) := by
  refine ⟨fun pins s σ H D I h => ?_⟩
  refine wpAny_mono ((ps_while (X := X.wish (XE X W)) (passes_xe hs hf) hc hb).run pins s σ H D (I.wish _) h) (fun q s1 z => ?_) fun e s1 x => tk e s1 x
  exact z.unwish
end
end L2.My
end
section
set_option Elab.async false
set_option linter.all false
set_option maxRecDepth 100000
set_option maxHeartbeats 4000000
/-! resolution. -/
namespace L2.My
open PySem PySem.Spec PyProof.Rows
abbrev sRes : Stmt := top 25
/-! ### a while by a number that is only said to be there -/
theorem least {P : Nat → Prop} (h : ∃ m, P m) : ∃ m, P m ∧ ∀ k, P k → m ≤ k := by
  obtain ⟨m, hm⟩ := h
  induction m using Nat.strongRecOn with
  | ind m ih =>
    by_cases e : ∃ k, k < m ∧ P k
    · obtain ⟨k, hk, pk⟩ := e
      exact ih k hk pk
    · exact ⟨m, hm, fun k pk => Nat.le_of_not_lt fun z => e ⟨k, z, pk⟩⟩
open Classical in
noncomputable def lst0 (P : Nat → Prop) : Nat := if h : ∃ m, P m then (least h).choose else 0
theorem lst0_ok {P : Nat → Prop} (h : ∃ m, P m) : P (lst0 P) ∧ ∀ k, P k → lst0 P ≤ k := by
  unfold lst0
  rw [dif_pos h]
  exact (least h).choose_spec
theorem while_m {c : TT} {tb : TS} {D : Ends} {σ : St} {H : Hp} (P : Nat → St → Hp → Prop) (h0 : ∃ m, P m σ H)
    (hs : ∀ m σ H, P m σ H → c σ H fun b H1 => if b = true then tb { nx := fun σ' H' => ∃ m', m' < m ∧ P m' σ' H', rt := D.rt, bk := D.nx, ct := fun σ' H' => ∃ m', m' < m ∧ P m' σ' H' } σ H1 else D.nx σ H1)
    (hm : ∀ (σ : St) (H : Hp) (Q Q' : Bool → Hp → Prop), (∀ b H1, Q b H1 → Q' b H1) → c σ H Q → c σ H Q') : tWhile c tb D σ H := by
  refine while_by (fun σ H => ∃ m, P m σ H) (fun σ H => lst0 fun m => P m σ H) h0 (fun σ H h => ?_) hm
  have l := lst0_ok h
  have e : (fun (σ' : St) (H' : Hp) => (∃ m, P m σ' H') ∧ lst0 (fun m => P m σ' H') < lst0 (fun m => P m σ H)) = fun σ' H' => ∃ m', m' < lst0 (fun m => P m σ H) ∧ P m' σ' H' := by
    funext σ' H'
    refine propext ⟨fun ⟨a, b⟩ => ⟨_, b, (lst0_ok a).1⟩, fun ⟨m', a, b⟩ => ⟨⟨m', b⟩, Nat.lt_of_le_of_lt ((lst0_ok ⟨m', b⟩).2 m' b) a⟩⟩
  rw [e]
  exact hs _ σ H l.1
def resL (ls : List Lf) (ns : List Nd) : Nat → Nat → List (Nat × Nat)
  | 0, at' => if (ls.getD at' none).isSome = true then [(0, at')] else []
  | lev + 1, at' => match fnd ns (lev + 1, at') with
    | some n => (lev + 1, at') :: n.2.2.map fun j => (0, j)
    | none => resL ls ns lev (2 * at') ++ resL ls ns lev (2 * at' + 1)
theorem resL_zero {ls : List Lf} {ns : List Nd} {a : Nat} : resL ls ns 0 a = if (ls.getD a none).isSome = true then [(0, a)] else [] := rfl
theorem resL_succ {ls : List Lf} {ns : List Nd} {l a : Nat} : resL ls ns (l + 1) a = match fnd ns (l + 1, a) with
    | some n => (l + 1, a) :: n.2.2.map fun j => (0, j)
    | none => resL ls ns l (2 * a) ++ resL ls ns l (2 * a + 1) := rfl
def mu (W : List (Nat × Nat)) : Nat := (W.map fun p => 2 ^ (p.1 + 1) - 1).sum
theorem mu_snoc (W : List (Nat × Nat)) (p : Nat × Nat) : mu (W ++ [p]) = mu W + (2 ^ (p.1 + 1) - 1) := by
  unfold mu
  rw [List.map_append, List.sum_append]
  simp
theorem two_pos (n : Nat) : 1 ≤ 2 ^ n := Nat.one_le_two_pow
theorem len_mu : ∀ W : List (Nat × Nat), W.length ≤ mu W
  | [] => Nat.le_refl _
  | p :: r => by
    have h1 := len_mu r
    have h2 := two_pos p.1
    have e : mu (p :: r) = (2 ^ (p.1 + 1) - 1) + mu r := rfl
    rw [e, Nat.pow_succ, List.length_cons]
    omega
theorem paired_snoc_inv {α β : Type} {R : α → β → Prop} {vs : List α} {W : List β} {p : β} (h : Paired R vs (W ++ [p])) : ∃ vs' v, vs = vs' ++ [v] ∧ Paired R vs' W ∧ R v p := by
  induction W generalizing vs with
  | nil => cases h with | cons r t => cases t; exact ⟨[], _, rfl, .nil, r⟩
  | cons q W ih =>
    cases h with
    | cons r t =>
      obtain ⟨vs', v, rfl, h1, h2⟩ := ih t
      exact ⟨_ :: vs', v, rfl, .cons r h1, h2⟩
theorem resL_len {h : Nat} {ls : List Lf} {ns : List Nd} (d : DrT h ls ns) : ∀ lev at', (resL ls ns lev at').length ≤ 257 * 2 ^ lev
  | 0, at' => by
    unfold resL
    split
    · show 1 ≤ 257 * 2 ^ 0; decide
    · exact Nat.zero_le _
  | lev + 1, at' => by
    unfold resL
    have h2 := two_pos lev
    split
    · rename_i n hn
      have := (d.gn n (fnd_some hn).1).le
      rw [List.length_cons, List.length_map, Nat.pow_succ]
      omega
    · have h3 := resL_len d lev (2 * at')
      have h4 := resL_len d lev (2 * at' + 1)
      rw [List.length_append, Nat.pow_succ]
      omega
structure RsI (C x kD fD wD : Addr) (h : Nat) (ls : List Lf) (ns : List Nd) (H G : Hp) (F W T : List (Nat × Nat)) : Prop where
  s : Same H G
  tr : TrIn C G x h ls ns
  kp : KpAt G kD ns
  fl : ∃ fv, G fD = some (.lst fv) ∧ Paired (PrAt G) fv F
  wl : ∃ wv, G wD = some (.lst wv) ∧ Paired (PrAt G) wv W
  ok : ∀ p ∈ W, p.1 ≤ h ∧ p.2 < 2 ^ (h - p.1)
  eq : F ++ W.reverse.flatMap (fun p => resL ls ns p.1 p.2) = T
section
variable {C x kD fD wD : Addr} {h : Nat} {ls : List Lf} {ns : List Nd} {H G G' : Hp} {F W T : List (Nat × Nat)}
theorem RsI.step (i : RsI C x kD fD wD h ls ns H G F W T) (s : Same G G') : RsI C x kD fD wD h ls ns H G' F W T := by
  obtain ⟨fv, f1, f2⟩ := i.fl
  obtain ⟨wv, w1, w2⟩ := i.wl
  exact ⟨i.s.trans s, i.tr.same s, i.kp.same s, ⟨fv, s _ _ f1, Paired.mapP f2 fun _ _ r => r.tk (.same s)⟩, ⟨wv, s _ _ w1, Paired.mapP w2 fun _ _ r => r.tk (.same s)⟩, i.ok, i.eq⟩
theorem TrIn.upd {D : Addr} {xs ys : List V} (t : TrIn C G x h ls ns) (hD : G D = some (.lst xs)) : TrIn C (L2.upd G D (.lst ys)) x h ls ns := by
  have t' := t
  obtain ⟨dx, la, na, h1, h2, h3⟩ := t'
  exact t.tk (.upd hD (fun _ e => by cases e)) (upd_ne (fun e => by rw [e, hD] at h1; cases h1))
theorem KpAt.upd {D : Addr} {xs ys : List V} (k : KpAt G kD ns) (hD : G D = some (.lst xs)) : KpAt (L2.upd G D (.lst ys)) kD ns := by
  obtain ⟨kvs, k1, k2⟩ := k
  exact ⟨kvs, by rw [upd_ne (fun e => by rw [e, hD] at k1; cases k1)]; exact k1, fun p => (k2 p).tk (.upd hD (fun _ e => by cases e))⟩
/-- other lists -/
theorem RsI.set (i : RsI C x kD fD wD h ls ns H G F W T) (nf : H fD = none) (nw : H wD = none) (ne : fD ≠ wD) {F' W' : List (Nat × Nat)} {fv' wv' : List V} (hf : Paired (PrAt G) fv' F') (hw : Paired (PrAt G) wv' W') (ok : ∀ p ∈ W', p.1 ≤ h ∧ p.2 < 2 ^ (h - p.1)) (eq : F' ++ W'.reverse.flatMap (fun p => resL ls ns p.1 p.2) = T) :
    RsI C x kD fD wD h ls ns H (L2.upd (L2.upd G fD (.lst fv')) wD (.lst wv')) F' W' T := by
  obtain ⟨fv, f1, f2⟩ := i.fl
  obtain ⟨wv, w1, w2⟩ := i.wl
  have w1' : (L2.upd G fD (.lst fv')) wD = some (.lst wv) := by rw [upd_ne (Ne.symm ne)]; exact w1
  have tk : TK G (L2.upd (L2.upd G fD (.lst fv')) wD (.lst wv')) := TK.trans (.upd f1 (fun _ e => by cases e)) (.upd w1' (fun _ e => by cases e))
  exact ⟨same_put (same_put i.s nf) nw, (i.tr.upd f1).upd w1', (i.kp.upd f1).upd w1', ⟨fv', by rw [upd_ne ne, upd_same], Paired.mapP hf fun _ _ r => r.tk tk⟩, ⟨wv', upd_same, Paired.mapP hw fun _ _ r => r.tk tk⟩, ok, eq⟩
theorem RsI.setF (i : RsI C x kD fD wD h ls ns H G F W T) (nf : H fD = none) (ne : fD ≠ wD) {F' : List (Nat × Nat)} {fv' : List V} (hf : Paired (PrAt G) fv' F') {T' : List (Nat × Nat)} (eq : F' ++ W.reverse.flatMap (fun p => resL ls ns p.1 p.2) = T') :
    RsI C x kD fD wD h ls ns H (L2.upd G fD (.lst fv')) F' W T' := by
  obtain ⟨fv, f1, f2⟩ := i.fl
  obtain ⟨wv, w1, w2⟩ := i.wl
  have tk : TK G (L2.upd G fD (.lst fv')) := .upd f1 (fun _ e => by cases e)
  exact ⟨same_put i.s nf, i.tr.upd f1, i.kp.upd f1, ⟨fv', upd_same, Paired.mapP hf fun _ _ r => r.tk tk⟩, ⟨wv, by rw [upd_ne (Ne.symm ne)]; exact w1, Paired.mapP w2 fun _ _ r => r.tk tk⟩, i.ok, eq⟩
theorem RsI.setW (i : RsI C x kD fD wD h ls ns H G F W T) (nw : H wD = none) (ne : fD ≠ wD) {W' : List (Nat × Nat)} {wv' : List V} (hw : Paired (PrAt G) wv' W') (ok : ∀ p ∈ W', p.1 ≤ h ∧ p.2 < 2 ^ (h - p.1)) {T' : List (Nat × Nat)} (eq : F ++ W'.reverse.flatMap (fun p => resL ls ns p.1 p.2) = T') :
    RsI C x kD fD wD h ls ns H (L2.upd G wD (.lst wv')) F W' T' := by
  obtain ⟨fv, f1, f2⟩ := i.fl
  obtain ⟨wv, w1, w2⟩ := i.wl
  have tk : TK G (L2.upd G wD (.lst wv')) := .upd w1 (fun _ e => by cases e)
  exact ⟨same_put i.s nw, i.tr.upd w1, i.kp.upd w1, ⟨fv, by rw [upd_ne ne]; exact f1, Paired.mapP f2 fun _ _ r => r.tk tk⟩, ⟨wv', upd_same, Paired.mapP hw fun _ _ r => r.tk tk⟩, ok, eq⟩
end
def spRes (C NN : Addr) : Sp := fun vs H Q E => ∃ b x h ls ns v, vs = [.ref x, v] ∧ TrIn C H x h ls ns ∧ DrT h ls ns ∧ Thg b H v ∧ (nodeB H h v = true → ∀ H' t, Same H H' → PrsAt H' t (resL ls ns (levV H v) (atV H v)) → Q (.ref t) H') ∧ (nodeB H h v = false → E (.ref NN) none H)
section
variable {P : Program} {w : World} {K : PySem.W.Frag} {mg : Str → Option Value} {base : Heap} {C NN : Addr}
abbrev nRs : List Str := ["tree", "node", "kept", "found", "waiting", "level", "at", "leaf"]
theorem scRs : FnScope nRs ["tree", "node"] (defScope sRes) := ⟨rfl, rfl, rfl, by decide +kernel, rfl, by decide +kernel, by decide +kernel⟩
theorem ok_res {f : Addr} {fd : FuncData} {k : Nat} (F : Fun K "resolution" "resolution" sRes f fd) (T : Tx mg) (c : TrC K C) (N : NoC P w K mg base "NoNode" NN) (cN : Cal P w K mg base (k + 2) "is_node" ["height", "thing"] spNode) (cK : Cal P w K mg base (k + 2) "kept_nodes" ["tree"] (spKn C)) : FnOk P w K mg base (CX P w) (k + 3) f fd ["tree", "node"] (spRes C NN) := by
  refine F.okX scRs (fun vs H Q E h => ?_) (fun cdv A outer s H vs Q E hr h => ?_)
  · obtain ⟨b, x, h, ls, ns, v, rfl, _⟩ := h
    rfl
  · obtain ⟨b, x, h, ls, ns, v, rfl, hT, d, hv, q, qe⟩ := h
    have tk := takes_of (X := cxOf (CX P w) P w K mg base nRs "resolution" (defScope sRes) f cdv A outer s H E) (E := E) rfl rfl rfl rfl
    refine ⟨_, (pss_cons (ps_if (pt_not (pt_val (pe_c cN hr (by omega) (by rfl) (pa_cons (pe_fld (pv 0) rfl) (pa_cons (pv 1) pa_nil))))) (pss_one (ps_raise rfl tk (pmk_no N.i rfl (hr.mono (by omega)) (by rfl) N.g))) pss_nil) (pss_cons (ps_set (i := 2) scRs.nd rfl (Or.inl rfl) (pe_c cK hr (by omega) (by rfl) (pa_cons (pv 0) pa_nil))) (pss_cons (ps_set (i := 3) scRs.nd rfl (Or.inl rfl) (pe_lst pa_nil)) (pss_cons (ps_set (i := 4) scRs.nd rfl (Or.inl rfl) (pe_lst (pa_cons (pv 1) pa_nil))) (pss_cons (ps_whileR rfl rfl tk (pt_truth (pv 4) (fun _ => rfl)) (pss_cons (ps_asg (pe_bm0 PySem.F.plainAttrs_list PySem.F.slot_list_pop PySem.F.type_list_pop mt_pop (pv 4)) (pg_tup rfl (pgs_cons (pg_name (i := 5) scRs.nd rfl (Or.inl rfl)) (pgs_cons (pg_name (i := 6) scRs.nd rfl (Or.inl rfl)) pgs_nil)))) (pss_one (ps_if (pt_cmpR op_eq (pv 5) pe_int (nomark _)) (pss_one (ps_expr (pe_bm PySem.F.plainAttrs_list PySem.F.slot_list_extend PySem.F.type_list_extend mt_extend (pv 3) (pa_cons (pe_ifExp (pt_cmpR op_notN (pe_ix ix_tup (pe_fld (pv 0) rfl) (pv 6) (fun _ _ => rfl)) pe_non (nomark _)) (pe_lst (pa_cons (pe_tup (pa_cons pe_int (pa_cons (pv 6) pa_nil))) pa_nil)) (pe_lst pa_nil)) pa_nil)))) (pss_one (ps_if (pt_cmp (pc_din (u1 hr) (pe_tup (pa_cons (pv 5) (pa_cons (pv 6) pa_nil))) (pv 2))) (pss_cons (ps_expr (pe_bm PySem.F.plainAttrs_list PySem.F.slot_list_append PySem.F.type_list_append mt_append (pv 3) (pa_cons (pe_tup (pa_cons (pv 5) (pa_cons (pv 6) pa_nil))) pa_nil))) (pss_one (ps_expr (pe_bm PySem.F.plainAttrs_list PySem.F.slot_list_extend PySem.F.type_list_extend mt_extend (pv 3) (pa_cons (pe_lc (own := [("leaf", 7)]) (g := gName 7) (te := tTup (tCons (tC (.int 0)) (tCons (tVar 7) tNil))) rfl scRs.nd (pi_tup (pe_ix ix_tup (pe_dget (u1 hr) (pv 2) (pe_tup (pa_cons (pv 5) (pa_cons (pv 6) pa_nil))) (fun _ _ => rfl)) pe_int (fun _ _ => rfl))) (blkOk_by (N := nRs) (sc := defScope sRes) (by decide +kernel)) (fun _ _ _ _ _ => pg_name (i := 7) scRs.nd rfl (Or.inl rfl)) (fun _ _ _ _ _ => pts_nil) (fun _ _ _ _ _ => (pe_tup (pa_cons pe_int (pa_cons (pv 7) pa_nil))))) pa_nil))))) (pss_cons (ps_expr (pe_bm PySem.F.plainAttrs_list PySem.F.slot_list_append PySem.F.type_list_append mt_append (pv 4) (pa_cons (pe_tup (pa_cons (pe_op op_sub (pv 5) pe_int) (pa_cons (pe_op op_add (pe_op op_mul pe_int (pv 6)) pe_int) pa_nil))) pa_nil))) (pss_one (ps_expr (pe_bm PySem.F.plainAttrs_list PySem.F.slot_list_append PySem.F.type_list_append mt_append (pv 4) (pa_cons (pe_tup (pa_cons (pe_op op_sub (pv 5) pe_int) (pa_cons (pe_op op_mul pe_int (pv 6)) pa_nil))) pa_nil))))))))))) (pss_one (ps_ret (pe_tupleOf (by rfl) T.tuple_ (pv 3))))))))), ?_⟩
    obtain ⟨dx, la, na, hx, hL, hN⟩ := id hT
    have h8 := d.h8
    refine ⟨_, rfl, x, C, dx, _, _, rfl, hx, c.cls, c.na _ (by simp), rfl, _, rfl, b, h, v, rfl, h8, hv, _, rfl, ?_⟩
    cases hn : nodeB H h v with
    | false => exact iteT ⟨fun _ h => h, qe hn⟩
    | true =>
    have q := q hn
    obtain ⟨pn, rfl, hpn, _, hlev, hat, _⟩ := node_of hv hn
    generalize levV H (.ref pn) = lev at *
    generalize atV H (.ref pn) = at' at *
    have hat' : at' < 2 ^ (h - lev) := Int.ofNat_lt.mp (by push_cast; exact hat)
    refine iteF ⟨_, rfl, x, h, ls, ns, rfl, hT, d, fun H1 kD s1 hk1 => ?_⟩
    refine ⟨Nat.zero_le _, fun fD nfD => ?_⟩
    have s2 := same_upd (o := HO.lst []) nfD
    have hfD2 : (upd H1 fD (.lst [])) fD = some (.lst []) := upd_same
    have nfH := s1.free nfD
    have hk2 := hk1.same s2
    generalize upd H1 fD (.lst []) = H2 at *
    refine ⟨_, rfl, by show 1 ≤ sizeLine; decide, fun wD nwD => ?_⟩
    have s3 := same_upd (o := HO.lst [V.ref pn]) nwD
    have hwD3 : (upd H2 wD (.lst [.ref pn])) wD = some (.lst [.ref pn]) := upd_same
    have nwH := (s1.trans s2).free nwD
    have ne : fD ≠ wD := fun e => by rw [e] at hfD2; rw [hfD2] at nwD; cases nwD
    have s13 := s1.trans (s2.trans s3)
    have hp3 := s13 _ _ hpn
    have i0 : RsI C x kD fD wD h ls ns H (upd H2 wD (.lst [.ref pn])) [] [(lev, at')] (resL ls ns lev at') := ⟨s13, hT.same s13, hk2.same s3, ⟨[], s3 _ _ hfD2, .nil⟩, ⟨_, hwD3, .cons ⟨pn, rfl, hp3⟩ .nil⟩, fun p hp => by rw [List.mem_singleton.mp hp]; exact ⟨hlev, hat'⟩, by simp⟩
    generalize upd H2 wD (.lst [.ref pn]) = H3 at *
    have m0 : mu [(lev, at')] ≤ 511 := by
      show 2 ^ (lev + 1) - 1 + 0 ≤ 511
      have := Nat.pow_le_pow_right (show 2 > 0 by decide) (show lev + 1 ≤ 9 by omega)
      omega
    have hTl : (resL ls ns lev at').length ≤ 65792 := by
      have h1 := resL_len d lev at'
      have h2 := Nat.mul_le_mul_left 257 (pow8 (show lev ≤ 8 by omega))
      omega
    dsimp only [gName]
    refine seq_use (fun σ G => ∃ y5 y6, σ = [some (.ref x), some (.ref pn), some (.ref kD), some (.ref fD), some (.ref wD), y5, y6, none] ∧ RsI C x kD fD wD h ls ns H G (resL ls ns lev at') [] (resL ls ns lev at')) ?_ (fun hrest => ?_)
    · rintro σ G ⟨y5, y6, rfl, I⟩
      obtain ⟨fv, f1, f2⟩ := I.fl
      refine ⟨_, rfl, .inl ⟨fD, fv, rfl, .of f1, fun t nt => ?_⟩⟩
      exact q _ t (I.s.trans (same_upd nt)) ⟨fv, upd_same, Paired.mapP f2 fun _ _ r => r.tk (.same (same_upd nt))⟩
    · refine while_m (fun m σ G => ∃ (y5 y6 : Option V) (Fl W : List (Nat × Nat)), σ = [some (.ref x), some (.ref pn), some (.ref kD), some (.ref fD), some (.ref wD), y5, y6, none] ∧ mu W = m ∧ m ≤ 511 ∧ RsI C x kD fD wD h ls ns H G Fl W (resL ls ns lev at')) ⟨_, _, _, _, _, rfl, rfl, m0, i0⟩ ?_ ?_
      · rintro m σ G ⟨y5, y6, Fl, W, rfl, hm, hm2, I⟩
        obtain ⟨wv, w1, w2⟩ := I.wl
        refine ⟨_, rfl, _, .inl ⟨wv, .of w1, rfl⟩, ?_⟩
        rcases List.eq_nil_or_concat W with rfl | ⟨W', p, rfl⟩
        · cases w2
          have e : Fl = resL ls ns lev at' := by simpa using I.eq
          subst e
          exact iteF (hrest _ _ ⟨_, _, rfl, I⟩)
        try rw [List.concat_eq_append] at *
        obtain ⟨wv', vp, rfl, w3, pa, rfl, hpa⟩ := paired_snoc_inv w2
        obtain ⟨l, i⟩ := p
        rw [mu_snoc] at hm
        rw [show (!(wv' ++ [V.ref pa]).isEmpty) = true by simp]
        refine iteT ?_
        refine ⟨_, rfl, .inl ⟨rfl, _, SqL.of w1⟩, wD, _, .ref pa, rfl, rfl, w1, by simp, ?_⟩
        rw [List.dropLast_concat]
        have okp := I.ok (l, i) (by simp)
        have npw : pa ≠ wD := fun e => by rw [e, w1] at hpa; cases hpa
        have Ieq := I.eq
        rw [List.reverse_append, List.flatMap_append] at Ieq
        have I1 := I.setW (wv' := wv') (W' := W') nwH ne w3 (fun p hp => I.ok p (List.mem_append_left _ hp)) rfl
        have hpa1 : (upd G wD (.lst wv')) pa = some (.tup [.int (l : Nat), .int (i : Nat)]) := by rw [upd_ne npw]; exact hpa
        generalize upd G wD (.lst wv') = G1 at *
        refine ⟨pa, _, rfl, .of hpa1, rfl, _, _, rfl, _, _, rfl, rfl, ?_⟩
        refine ⟨_, rfl, rfl, _, rfl, ?_⟩
        have hp1 := two_pos l
        have hFT : ∀ {Fx : List (Nat × Nat)} {Y : List (Nat × Nat)}, Fx ++ Y = resL ls ns lev at' → Fx.length ≤ 65792 := fun e => by
          have := congrArg List.length e
          rw [List.length_append] at this
          omega
        obtain ⟨fv, f1, f2⟩ := I1.fl
        have lF : fv.length ≤ 65792 := by rw [Paired.len f2]; exact hFT Ieq
        cases l with
        | zero =>
          rw [show decide (V.int ((0 : Nat) : Int) = V.int 0) = true from rfl]
          refine iteT ?_
          have Ieq : Fl ++ (resL ls ns 0 i ++ W'.reverse.flatMap fun p => resL ls ns p.1 p.2) = resL ls ns lev at' := by simpa using Ieq
          obtain ⟨dx1, la1, na1, hx1, ⟨xs, hla, hpx⟩, _⟩ := id I1.tr
          have hil : i < ls.length := by
            rw [d.ll]
            have := okp.2
            simpa using this
          obtain ⟨xv, hxv, hlf⟩ := Paired.at hpx (List.getElem?_eq_getElem hil)
          have eg : ls.getD i none = ls[i] := by rw [List.getD_eq_getElem?_getD, List.getElem?_eq_getElem hil]; rfl
          refine ⟨_, rfl, .inl ⟨rfl, _, SqL.of f1⟩, ?_⟩
          refine ⟨_, rfl, x, C, dx1, _, _, rfl, hx1, c.cls, c.na _ (by simp), rfl, _, rfl, la1, xs, _, xv, rfl, rfl, .of hla, atI_nat hxv, rfl, _, rfl, ?_⟩
          rw [nonN, lf_non hlf]
          rw [resL_zero, eg] at Ieq
          have hm' : mu W' + 1 = m := hm
          cases hs : ls[i].isSome with
          | true =>
            rw [hs, if_pos rfl] at Ieq
            refine iteT ⟨_, rfl, by show 2 ≤ sizeLine; decide, fun pp npp => ⟨by show 1 ≤ sizeLine; decide, fun ll nll => ?_⟩⟩
            have u1 := same_upd (o := HO.tup [.int 0, .int (i : Nat)]) npp
            have hpp : (upd G1 pp (.tup [.int 0, .int (i : Nat)])) pp = some (.tup [.int 0, .int (i : Nat)]) := upd_same
            have u2 := same_upd (o := HO.lst [V.ref pp]) nll
            have u12 := u1.trans u2
            have I2 := I1.step u12
            refine ⟨fD, ll, fv, [.ref pp], rfl, rfl, u12 _ _ f1, upd_same, Nat.le_trans (show fv.length + 1 ≤ 65793 by omega) (by decide), ?_⟩
            exact ⟨mu W', by omega, _, _, Fl ++ [(0, i)], W', rfl, rfl, by omega, I2.setF nfH ne (Paired.snoc (Paired.mapP f2 fun _ _ r => r.tk (.same u12)) ⟨pp, rfl, u2 _ _ hpp⟩) (by rw [List.append_assoc]; exact Ieq)⟩
          | false =>
            rw [hs, if_neg Bool.false_ne_true] at Ieq
            refine iteF ⟨Nat.zero_le _, fun ll nll => ?_⟩
            have u2 := same_upd (o := HO.lst []) nll
            have I2 := I1.step u2
            refine ⟨fD, ll, fv, [], rfl, rfl, u2 _ _ f1, upd_same, Nat.le_trans (show fv.length + 0 ≤ 65793 by omega) (by decide), ?_⟩
            rw [List.append_nil]
            exact ⟨mu W', by omega, _, _, Fl, W', rfl, rfl, by omega, I2.setF nfH ne (Paired.mapP f2 fun _ _ r => r.tk (.same u2)) Ieq⟩
        | succ l =>
          rw [show decide (V.int ((l + 1 : Nat) : Int) = V.int 0) = false from decide_eq_false (fun e => by have := V.int.inj e; omega)]
          refine iteF ?_
          have Ieq : Fl ++ (resL ls ns (l + 1) i ++ W'.reverse.flatMap fun p => resL ls ns p.1 p.2) = resL ls ns lev at' := by simpa using Ieq
          refine ⟨_, rfl, _, rfl, by show 2 ≤ sizeLine; decide, fun pk npk => ?_⟩
          have u1 := same_upd (o := HO.tup [.int ((l + 1 : Nat) : Int), .int (i : Nat)]) npk
          have hpk : (upd G1 pk (.tup [.int ((l + 1 : Nat) : Int), .int (i : Nat)])) pk = some (.tup [.int ((l + 1 : Nat) : Int), .int (i : Nat)]) := upd_same
          have I2 := I1.step u1
          have f12 := u1 _ _ f1
          have f22 := Paired.mapP f2 fun _ _ r => PrAt.tk r (.same u1)
          generalize upd G1 pk (.tup [.int ((l + 1 : Nat) : Int), .int (i : Nat)]) = G2 at *
          obtain ⟨kvs, k1, k2⟩ := id I2.kp
          refine ⟨_, rfl, kD, _, rfl, DGet.t (k := nkey (l + 1, i)) k1 hpk, ?_⟩
          have k3 := k2 (l + 1, i)
          rw [resL_succ] at Ieq
          have hm' : mu W' + (2 ^ (l + 1 + 1) - 1) = m := hm
          rw [Nat.pow_succ] at hm'
          have hp2 := two_pos (l + 1)
          cases hf : fnd ns (l + 1, i) with
          | none =>
            rw [hf] at k3 Ieq
            rw [show valV kvs (nkey (l + 1, i)) = none from k3]
            refine ⟨_, rfl, iteF ?_⟩
            obtain ⟨wv2, w21, w22⟩ := I2.wl
            have lW : wv2.length ≤ 511 := by
              rw [Paired.len w22]
              have := len_mu W'
              omega
            have e1 : ((l + 1 : Nat) : Int) - 1 = ((l : Nat) : Int) := by omega
            have e2 : 2 * ((i : Nat) : Int) + 1 = ((2 * i + 1 : Nat) : Int) := by omega
            have e3 : 2 * ((i : Nat) : Int) = ((2 * i : Nat) : Int) := by omega
            have ok2 : l ≤ h ∧ 2 * i + 1 < 2 ^ (h - l) := by
              have h1 : l + 1 ≤ h := okp.1
              have h2 : i < 2 ^ (h - (l + 1)) := okp.2
              have e : 2 ^ (h - l) = 2 ^ (h - (l + 1)) * 2 := by rw [← Nat.pow_succ]; congr 1; omega
              exact ⟨by omega, by omega⟩
            refine ⟨_, rfl, .inl ⟨rfl, _, SqL.of w21⟩, _, rfl, _, _, rfl, rfl, _, rfl, _, _, rfl, rfl, .inl ⟨by decide, by decide⟩, _, _, rfl, rfl, by show 2 ≤ sizeLine; decide, fun p1 np1 => ?_⟩
            have u3 := same_upd (o := HO.tup [.int (((l + 1 : Nat) : Int) - 1), .int (2 * ((i : Nat) : Int) + 1)]) np1
            have hp3 : PrAt (upd G2 p1 (.tup [.int (((l + 1 : Nat) : Int) - 1), .int (2 * ((i : Nat) : Int) + 1)])) (.ref p1) (l, 2 * i + 1) := ⟨p1, rfl, by rw [upd_same, e1, e2]⟩
            have I3 := I2.step u3
            have w31 := u3 _ _ w21
            have w32 := Paired.mapP w22 fun _ _ r => PrAt.tk r (.same u3)
            refine ⟨wD, wv2, .ref p1, rfl, rfl, w31, Nat.lt_of_le_of_lt lW (by decide), ?_⟩
            have I4 := I3.setW nwH ne (wv' := wv2 ++ [.ref p1]) (W' := W' ++ [(l, 2 * i + 1)]) (Paired.snoc w32 hp3) (fun p hp => by
              rcases List.mem_append.mp hp with z | z
              · exact I3.ok p z
              · rw [List.mem_singleton.mp z]; exact ok2) rfl
            dsimp only at I4 ⊢
            generalize upd (upd G2 p1 (.tup [.int (((l + 1 : Nat) : Int) - 1), .int (2 * ((i : Nat) : Int) + 1)])) wD (.lst (wv2 ++ [.ref p1])) = G4 at *
            obtain ⟨wv4, w41, w42⟩ := I4.wl
            have lW4 : wv4.length ≤ 512 := by
              rw [Paired.len w42, List.length_append, List.length_singleton]
              have := len_mu W'
              omega
            refine ⟨_, rfl, .inl ⟨rfl, _, SqL.of w41⟩, _, rfl, _, _, rfl, rfl, _, rfl, _, _, rfl, rfl, .inl ⟨by decide, by decide⟩, by show 2 ≤ sizeLine; decide, fun p2 np2 => ?_⟩
            have u5 := same_upd (o := HO.tup [.int (((l + 1 : Nat) : Int) - 1), .int (2 * ((i : Nat) : Int))]) np2
            have hp5 : PrAt (upd G4 p2 (.tup [.int (((l + 1 : Nat) : Int) - 1), .int (2 * ((i : Nat) : Int))])) (.ref p2) (l, 2 * i) := ⟨p2, rfl, by rw [upd_same, e1, e3]⟩
            have I5 := I4.step u5
            have w51 := u5 _ _ w41
            have w52 := Paired.mapP w42 fun _ _ r => PrAt.tk r (.same u5)
            refine ⟨wD, wv4, .ref p2, rfl, rfl, w51, Nat.lt_of_le_of_lt lW4 (by decide), ?_⟩
            refine ⟨mu ((W' ++ [(l, 2 * i + 1)]) ++ [(l, 2 * i)]), ?_, _, _, Fl, (W' ++ [(l, 2 * i + 1)]) ++ [(l, 2 * i)], rfl, rfl, ?_, I5.setW nwH ne (Paired.snoc w52 hp5) (fun p hp => ?_) ?_⟩
            · rw [mu_snoc, mu_snoc]
              dsimp only
              omega
            · rw [mu_snoc, mu_snoc]
              dsimp only
              omega
            · rcases List.mem_append.mp hp with z | z
              · exact I5.ok p z
              · rw [List.mem_singleton.mp z]; exact ⟨ok2.1, Nat.lt_trans (Nat.lt_succ_self _) ok2.2⟩
            · rw [← Ieq]
              simp only [List.reverse_append, List.reverse_cons, List.reverse_nil, List.nil_append, List.flatMap_append, List.flatMap_cons, List.flatMap_nil, List.append_nil, List.append_assoc, List.singleton_append, List.cons_append]
          | some n =>
            rw [hf] at k3 Ieq
            obtain ⟨va, ca, k4, k5, k6⟩ := k3
            rw [k4]
            refine ⟨_, rfl, iteT ?_⟩
            refine ⟨_, rfl, .inl ⟨rfl, _, SqL.of f12⟩, _, rfl, _, rfl, by show 2 ≤ sizeLine; decide, fun p1 np1 => ?_⟩
            have u3 := same_upd (o := HO.tup [.int ((l + 1 : Nat) : Int), .int (i : Nat)]) np1
            have hp3 : PrAt (upd G2 p1 (.tup [.int ((l + 1 : Nat) : Int), .int (i : Nat)])) (.ref p1) (l + 1, i) := ⟨p1, rfl, upd_same⟩
            have I3 := I2.step u3
            have f31 := u3 _ _ f12
            have f32 := Paired.mapP f22 fun _ _ r => PrAt.tk r (.same u3)
            refine ⟨fD, fv, .ref p1, rfl, rfl, f31, Nat.lt_of_le_of_lt lF (by decide), ?_⟩
            have I4 := I3.setF nfH ne (fv' := fv ++ [.ref p1]) (F' := Fl ++ [(l + 1, i)]) (Paired.snoc f32 hp3) rfl
            generalize upd (upd G2 p1 (.tup [.int ((l + 1 : Nat) : Int), .int (i : Nat)])) fD (.lst (fv ++ [.ref p1])) = G4 at *
            obtain ⟨fv4, f41, f42⟩ := I4.fl
            refine ⟨_, rfl, .inl ⟨rfl, _, SqL.of f41⟩, ?_⟩
            refine ⟨_, rfl, _, rfl, _, rfl, by show 2 ≤ sizeLine; decide, fun p2 np2 => ?_⟩
            have u5 := same_upd (o := HO.tup [.int ((l + 1 : Nat) : Int), .int (i : Nat)]) np2
            have hp5 : (upd G4 p2 (.tup [.int ((l + 1 : Nat) : Int), .int (i : Nat)])) p2 = some (.tup [.int ((l + 1 : Nat) : Int), .int (i : Nat)]) := upd_same
            have I5 := I4.step u5
            have f51 := u5 _ _ f41
            have f52 := Paired.mapP f42 fun _ _ r => PrAt.tk r (.same u5)
            generalize upd G4 p2 (.tup [.int ((l + 1 : Nat) : Int), .int (i : Nat)]) = G5 at *
            obtain ⟨kvs5, k51, k52⟩ := id I5.kp
            have k53 := k52 (l + 1, i)
            rw [hf] at k53
            obtain ⟨va5, ca5, k54, k55, k56⟩ := k53
            refine ⟨kD, .ref va5, rfl, by rw [← k54]; exact DGet.t (k := nkey (l + 1, i)) k51 hp5, ?_⟩
            refine ⟨va5, _, _, .ref ca5, rfl, rfl, .of k55, atI_nat (j := 1) rfl, ca5, rfl, ⟨_, .of k56⟩, fun D nD => ?_⟩
            have hle := (d.gn n (fnd_some hf).1).le
            refine lc_it (walk_tup (xs := nN n.2.2)) (tt := tYes) (fun q G6 => Same G5 G6 ∧ ∃ us, G6 D = some (.lst us) ∧ us.length = q ∧ Paired (PrAt G6) us ((n.2.2.take q).map fun j => (0, j))) ⟨same_upd nD, [], upd_same, rfl, .nil⟩ (fun q G6 _ hG => .of (hG.1 _ _ k56)) ?_ ?_
            · rintro q y G6 G7 hq ⟨s6, us, hus, hul, hup⟩ ⟨rfl, hy⟩
              obtain ⟨j, hj, rfl⟩ := nN_at hy
              rw [nN_len] at hq
              refine ⟨rfl, _, rfl, by show 2 ≤ sizeLine; decide, fun p3 np3 => ?_⟩
              have u7 := same_upd (o := HO.tup [.int 0, .int (j : Nat)]) np3
              have hu := u7 _ _ hus
              have np3D : p3 ≠ D := fun e => by rw [e, hus] at np3; cases np3
              refine ⟨us, hu, Nat.lt_of_le_of_lt (show us.length ≤ 256 by omega) (by decide), same_put (s6.trans u7) nD, us ++ [.ref p3], upd_same, by rw [List.length_append, hul]; rfl, ?_⟩
              have tk7 : TK G7 (upd (upd G7 p3 (.tup [.int 0, .int (j : Nat)])) D (.lst (us ++ [.ref p3]))) := (TK.same u7).trans (.upd hu (fun _ e => by cases e))
              rw [take_snoc hj, List.map_append]
              exact Paired.snoc (Paired.mapP hup fun _ _ r => r.tk tk7) ⟨p3, rfl, by rw [upd_ne np3D, upd_same]; rfl⟩
            · rintro G6 ⟨s6, us, hus, hul, hup⟩
              rw [nN_len, List.take_length] at hup
              rw [nN_len] at hul
              have I6 := I5.step s6
              have f61 := s6 _ _ f51
              have l4 : fv4.length ≤ 65793 := by rw [Paired.len f42, List.length_append, List.length_singleton, ← Paired.len f2]; omega
              refine ⟨fD, D, fv4, us, rfl, rfl, f61, hus, Nat.le_trans (show fv4.length + us.length ≤ 70000 by omega) (by decide), ?_⟩
              refine ⟨mu W', by omega, _, _, (Fl ++ [(l + 1, i)]) ++ n.2.2.map fun j => (0, j), W', rfl, rfl, by omega, I6.setF nfH ne (paired_app (Paired.mapP f52 fun _ _ r => PrAt.tk r (.same s6)) hup) ?_⟩
              rw [← Ieq]
              simp only [List.append_assoc, List.singleton_append, List.cons_append, List.nil_append]
      · exact fun σ H Q Q' w h => by obtain ⟨v, e, k, t, q⟩ := h; exact ⟨v, e, k, t, w _ _ q⟩
end
end L2.My
end
section
set_option Elab.async false
set_option linter.all false
set_option maxRecDepth 100000
set_option maxHeartbeats 4000000
/-! holders, meeting. -/
namespace L2.My
open PySem PySem.Spec PyProof.Rows
abbrev sMeet : Stmt := top 27
abbrev sHold : Stmt := top 28
def asdL (ns : List Nd) (lev at' : Nat) : Option (List Nat) := if lev = 0 then some [] else (fnd ns (lev, at')).map (·.2.2)
def holdL (ls : List Lf) (ns : List Nd) (lev at' : Nat) : List Nat := match asdL ns lev at' with
  | none => []
  | some as => (memL ls).filter fun j => decide (j / 2 ^ lev = at') && !decide (j ∈ as)
def spHold (C NN : Addr) : Sp := fun vs H Q E => ∃ b x h ls ns v, vs = [.ref x, v] ∧ TrIn C H x h ls ns ∧ DrT h ls ns ∧ Thg b H v ∧ (nodeB H h v = true → ∀ H' t, Same H H' → H' t = some (.tup (nN (holdL ls ns (levV H v) (atV H v)))) → Q (.ref t) H') ∧ (nodeB H h v = false → E (.ref NN) none H)
def metL (i j : Nat) : Nat := Builtin.Int.intBits (Builtin.bitXor (i : Int) (j : Int))
def spMeet (C NL : Addr) : Sp := fun vs H Q E => ∃ b x h ls ns v u, vs = [.ref x, v, u] ∧ TrIn C H x h ls ns ∧ DrT h ls ns ∧ Thg b H v ∧ Thg b H u ∧
  (belowV (ls.length : Int) v = true → belowV (ls.length : Int) u = true → iV v ≠ iV u → ∀ H' t, Same H H' → PrAt H' (.ref t) (metL (iV v) (iV u), iV v / 2 ^ metL (iV v) (iV u)) → Q (.ref t) H') ∧
  ((belowV (ls.length : Int) v = false ∨ belowV (ls.length : Int) u = false ∨ iV v = iV u) → E (.ref NL) none H)
theorem dec_mem_any (i : Nat) (l : List Nat) : ((l.map fun (j : Nat) => PyData.int j).any fun y => PyData.eqv y (.int (i : Nat))) = decide (i ∈ l) := any_nats i l
theorem shaped_natsT (l : List Nat) : SeqAt.shaped (.tuple (l.map fun (j : Nat) => PyData.int j)) = true := by
  have h1 : PyData.canLay0 (.tuple (l.map fun (j : Nat) => PyData.int j)) = true := by rw [PyData.canLay0]; exact can_nats l
  have h2 := dep_nats l
  unfold SeqAt.shaped
  rw [h1, Bool.true_and]
  refine decide_eq_true ?_
  simp only [PyData.depth]
  omega
theorem rNotInT_nats {K : PySem.W.Frag} {H : Hp} {a : Addr} {i : Nat} {l : List Nat} {Q : VK} (h : H a = some (.tup (nN l))) (q : Q (.bl (!decide (i ∈ l))) H) : rNotInTD K (.int (i : Nat)) (.ref a) H Q :=
  ⟨.int (i : Nat), l.map fun (j : Nat) => PyData.int j, .int _, .tup (.of h) (dpNats l), shaped_int _, shaped_natsT l, by rw [any_nats]; exact q⟩
theorem mem_len {ls : List Lf} : (memL ls).length ≤ ls.length := Nat.le_trans (List.length_filter_le _ _) (by rw [List.length_range]; exact Nat.le_refl _)
section
variable {P : Program} {w : World} {K : PySem.W.Frag} {mg : Str → Option Value} {base : Heap} {C NL NN : Addr}
abbrev nHo : List Str := ["tree", "node", "level", "at", "kept", "aside", "leaf"]
theorem scHo : FnScope nHo ["tree", "node"] (defScope sHold) := ⟨rfl, rfl, rfl, by decide +kernel, rfl, by decide +kernel, by decide +kernel⟩
theorem ok_hold {f : Addr} {fd : FuncData} {k : Nat} (F : Fun K "holders" "holders" sHold f fd) (T : Tx mg) (c : TrC K C) (N : NoC P w K mg base "NoNode" NN) (cN : Cal P w K mg base (k + 2) "is_node" ["height", "thing"] spNode) (cK : Cal P w K mg base (k + 2) "kept_nodes" ["tree"] (spKn C)) (cM : Cal P w K mg base (k + 2) "members" ["tree"] (spMems C)) : FnOk P w K mg base (CX P w) (k + 3) f fd ["tree", "node"] (spHold C NN) := by
  refine F.okX scHo (fun vs H Q E h => ?_) (fun cdv A outer s H vs Q E hr h => ?_)
  · obtain ⟨b, x, h, ls, ns, v, rfl, _⟩ := h
    rfl
  · obtain ⟨b, x, h, ls, ns, v, rfl, hT, d, hv, q, qe⟩ := h
    have tk := takes_of (X := cxOf (CX P w) P w K mg base nHo "holders" (defScope sHold) f cdv A outer s H E) (E := E) rfl rfl rfl rfl
    refine ⟨_, (pss_cons (ps_if (pt_not (pt_val (pe_c cN hr (by omega) (by rfl) (pa_cons (pe_fld (pv 0) rfl) (pa_cons (pv 1) pa_nil))))) (pss_one (ps_raise rfl tk (pmk_no N.i rfl (hr.mono (by omega)) (by rfl) N.g))) pss_nil) (pss_cons (ps_asg (pv 1) (pg_tup rfl (pgs_cons (pg_name (i := 2) scHo.nd rfl (Or.inr rfl)) (pgs_cons (pg_name (i := 3) scHo.nd rfl (Or.inr rfl)) pgs_nil)))) (pss_cons (ps_set (i := 4) scHo.nd rfl (Or.inl rfl) (pe_c cK hr (by omega) (by rfl) (pa_cons (pv 0) pa_nil))) (pss_cons (ps_if (pt_and (pt_cmpR op_gt (pv 2) pe_int (nomark _)) (pw_and1 (pt_cmp (pc_dnotin (u1 hr) (pv 1) (pv 4))))) (pss_one (ps_ret (pe_tup pa_nil))) pss_nil) (pss_cons (ps_set (i := 5) scHo.nd rfl (Or.inr rfl) (pe_ifExp (pt_cmpR op_gt (pv 2) pe_int (nomark _)) (pe_ix ix_tup (pe_dget (u1 hr) (pv 4) (pv 1) (fun _ _ => rfl)) pe_int (fun _ _ => rfl)) (pe_tup pa_nil))) (pss_one (ps_ret (pe_tupleOf (by rfl) T.tuple_ (pe_lc (own := [("leaf", 6)]) (g := gName 6) (te := tVar 6) (tt := tAnd (tTest (tOp rEq (tOp rShr (tVar 6) (tVar 2)) (tVar 3))) (tTest (tOp (rNotInTD K) (tVar 6) (tVar 5)))) rfl scHo.nd (pi_tup (pe_c cM hr (by omega) (by rfl) (pa_cons (pv 0) pa_nil))) (blkOk_by (N := nHo) (sc := defScope sHold) (by decide +kernel)) (fun _ _ _ _ _ => (pg_name (i := 6) scHo.nd rfl (Or.inl rfl))) (fun _ _ _ _ _ => (pts_one (pt_and (pt_cmpR op_eq (pe_op op_shr (pv 6) (pv 2)) (pv 3) (nomark _)) (pw_and1 (pt_cmpR (op_notInTD (u65 hr)) (pv 6) (pv 5) rfl))))) (fun _ _ _ _ _ => (pv 6))))))))))), ?_⟩
    obtain ⟨dx, la, na, hx, hL, hN⟩ := id hT
    have h8 := d.h8
    refine ⟨_, rfl, x, C, dx, _, _, rfl, hx, c.cls, c.na _ (by simp), rfl, _, rfl, b, h, v, rfl, h8, hv, _, rfl, ?_⟩
    cases hn : nodeB H h v with
    | false => exact iteT ⟨fun _ h => h, qe hn⟩
    | true =>
    have q := q hn
    obtain ⟨pn, rfl, hpn, _, hlev, hat, _⟩ := node_of hv hn
    generalize levV H (.ref pn) = lev at *
    generalize atV H (.ref pn) = at' at *
    refine iteF ⟨_, rfl, pn, _, rfl, .of hpn, rfl, _, _, rfl, _, _, rfl, rfl, ?_⟩
    refine ⟨_, rfl, x, h, ls, ns, rfl, hT, d, fun H1 kD s1 hk => ?_⟩
    obtain ⟨kvs, k1, k2⟩ := id hk
    have hpn1 := s1 _ _ hpn
    have k3 := k2 (lev, at')
    have gtz : decide ((0 : Int) < ((lev : Nat) : Int)) = !decide (lev = 0) := by
      by_cases z : lev = 0
      · rw [z]; rfl
      · rw [decide_eq_false z, decide_eq_true (by omega)]; rfl
    have low : ∀ (G : Hp) (a : Addr) (as : List Nat), asdL ns lev at' = some as → Same H1 G → G a = some (.tup (nN as)) → as.length ≤ 256 →
        tRet (tThen (tLc (iTup K (tCall (spMems C) [] E0 (tCons (tVar 0) tNil))) (gName 6) (tAnd (tTest (tOp rEq (tOp rShr (tVar 6) (tVar 2)) (tVar 3))) (tTest (tOp (rNotInTD K) (tVar 6) (tVar 5)))) (tVar 6) [6]) (kTup K)) { nx := fun x H' => Q V.non H', rt := Q } [some (.ref x), some (.ref pn), some (.int (lev : Nat)), some (.int (at' : Nat)), some (.ref kD), some (.ref a), none] G := by
      intro G a as ha sG haG las
      refine ⟨_, rfl, x, h, ls, ns, rfl, hT.same (s1.trans sG), d, fun G2 m s2 hm => ⟨m, rfl, ⟨_, .of hm⟩, fun D nD => ?_⟩⟩
      have haG2 := s2 _ _ haG
      have hl256 := d.l256
      have hml : (memL ls).length ≤ 256 := Nat.le_trans mem_len hl256
      refine lc_it (walk_tup (xs := nN (memL ls))) (fun i G3 => Same G2 G3 ∧ G3 D = some (.lst (nN (((memL ls).take i).filter fun j => decide (j / 2 ^ lev = at') && !decide (j ∈ as))))) ⟨same_upd nD, upd_same⟩ (fun i G3 _ hG => .of (hG.1 _ _ hm)) ?_ ?_
      · rintro i y G3 G4 hi ⟨s3, hD⟩ ⟨rfl, hy⟩
        obtain ⟨j, hj, rfl⟩ := nN_at hy
        refine ⟨rfl, _, rfl, _, rfl, _, _, rfl, rfl, by omega, _, rfl, rfl, _, rfl, ?_⟩
        have e1 : decide (V.int (((j : Nat) : Int) / 2 ^ ((lev : Nat) : Int).toNat) = V.int (at' : Nat)) = decide (j / 2 ^ lev = at') := by
          have e : ((j : Nat) : Int) / 2 ^ ((lev : Nat) : Int).toNat = ((j / 2 ^ lev : Nat) : Int) := by
            rw [Int.toNat_natCast]; push_cast; rfl
          rw [e, dec_int, Bool.eq_iff_iff, beq_iff_eq, decide_eq_true_iff]
          omega
        rw [e1, take_snoc hj, List.filter_append]
        cases h1 : decide (j / 2 ^ lev = at') with
        | false =>
          refine iteF (iteF ⟨s3, ?_⟩)
          rw [List.filter_cons_of_neg (by rw [h1]; exact Bool.false_ne_true), List.filter_nil, List.append_nil]
          exact hD
        | true =>
          refine iteT ⟨_, rfl, _, rfl, rNotInT_nats (s3 _ _ haG2) ⟨_, rfl, ?_⟩⟩
          cases h2 : !decide (j ∈ as) with
          | false =>
            refine iteF ⟨s3, ?_⟩
            rw [List.filter_cons_of_neg (by rw [h1, h2]; exact Bool.false_ne_true), List.filter_nil, List.append_nil]
            exact hD
          | true =>
            refine iteT ⟨_, rfl, _, hD, ?_, same_put s3 nD, ?_⟩
            · rw [nN_len]
              exact Nat.lt_of_le_of_lt (show (((memL ls).take i).filter fun j => decide (j / 2 ^ lev = at') && !decide (j ∈ as)).length ≤ 256 from Nat.le_trans (List.length_filter_le _ _) (by rw [List.length_take]; omega)) (by decide)
            · rw [List.filter_cons_of_pos (by rw [h1, h2]; rfl), List.filter_nil, upd_same]
              unfold nN
              rw [List.map_append]
              rfl
      · rintro G3 ⟨s3, hD⟩
        rw [nN_len, List.take_length] at hD
        refine .inl ⟨D, _, rfl, .of hD, fun t nt => q _ t (s1.trans (sG.trans (s2.trans (s3.trans (same_upd nt))))) ?_⟩
        rw [upd_same]
        unfold holdL
        rw [ha]
    by_cases z : lev = 0
    · have ha : asdL ns lev at' = some [] := by unfold asdL; rw [if_pos z]
      have gz : decide ((0 : Int) < ((lev : Nat) : Int)) = false := decide_eq_false (by omega)
      refine ⟨_, rfl, _, _, rfl, rfl, _, rfl, ?_⟩
      rw [gz]
      refine iteF (iteF ?_)
      refine ⟨_, rfl, _, _, rfl, rfl, _, rfl, ?_⟩
      rw [gz]
      refine iteF ⟨Nat.zero_le _, fun a na => ?_⟩
      exact low _ a [] ha (same_upd na) upd_same (by decide)
    · have gz : decide ((0 : Int) < ((lev : Nat) : Int)) = true := decide_eq_true (by omega)
      refine ⟨_, rfl, _, _, rfl, rfl, _, rfl, ?_⟩
      rw [gz]
      refine iteT ⟨_, rfl, _, rfl, kD, _, rfl, DGet.t (k := nkey (lev, at')) k1 hpn1, ?_⟩
      cases hf : fnd ns (lev, at') with
      | none =>
        rw [hf] at k3
        rw [show valV kvs (nkey (lev, at')) = none from k3]
        refine ⟨_, rfl, iteT ⟨Nat.zero_le _, fun t nt => q _ t (s1.trans (same_upd nt)) ?_⟩⟩
        rw [upd_same]
        unfold holdL asdL
        rw [if_neg z, hf]
        rfl
      | some n =>
        rw [hf] at k3
        obtain ⟨va, ca, k4, k5, k6⟩ := k3
        rw [k4]
        refine ⟨_, rfl, iteF ?_⟩
        refine ⟨_, rfl, _, _, rfl, rfl, _, rfl, ?_⟩
        rw [gz]
        refine iteT ⟨_, rfl, _, rfl, kD, .ref va, rfl, by rw [← k4]; exact DGet.t (k := nkey (lev, at')) k1 hpn1, ?_⟩
        refine ⟨va, _, _, .ref ca, rfl, rfl, .of k5, atI_nat (j := 1) rfl, ?_⟩
        exact low _ ca n.2.2 (by unfold asdL; rw [if_neg z, hf]; rfl) (Same.refl _) k6 (d.gn n (fnd_some hf).1).le
theorem scMeet : FnScope ["tree", "one", "other", "level"] ["tree", "one", "other"] (defScope sMeet) := ⟨rfl, rfl, rfl, by decide +kernel, rfl, by decide +kernel, by decide +kernel⟩
theorem ok_meet {f : Addr} {fd : FuncData} {k : Nat} (F : Fun K "meeting" "meeting" sMeet f fd) (T : Tx mg) (N : NoC P w K mg base "NoLeaf" NL) (cC : CalX P w K mg base (k + 3) "check_leaf" ["tree", "leaf"] (spChk C NL)) : FnOk P w K mg base (CX P w) (k + 4) f fd ["tree", "one", "other"] (spMeet C NL) := by
  refine F.okX scMeet (fun vs H Q E h => ?_) (fun cdv A outer s H vs Q E hr h => ?_)
  · obtain ⟨b, x, h, ls, ns, v, u, rfl, _⟩ := h
    rfl
  · obtain ⟨b, x, h, ls, ns, v, u, rfl, hT, d, hv, hu, q, qe⟩ := h
    have tk := takes_of (X := cxOf (CX P w) P w K mg base ["tree", "one", "other", "level"] "meeting" (defScope sMeet) f cdv A outer s H E) (E := E) rfl rfl rfl rfl
    refine ⟨_, (pss_cons (ps_expr (pe_cx cC hr (by omega) (by rfl) (passes_call tk (E := E) fun _ _ _ _ h => h) (pa_cons (pv 0) (pa_cons (pv 1) pa_nil)))) (pss_cons (ps_expr (pe_cx cC hr (by omega) (by rfl) (passes_call tk (E := E) fun _ _ _ _ h => h) (pa_cons (pv 0) (pa_cons (pv 2) pa_nil)))) (pss_cons (ps_if (pt_cmpR op_eq (pv 1) (pv 2) (nomark _)) (pss_one (ps_raise rfl tk (pmk_no N.i rfl (hr.mono (by omega)) (by rfl) N.g))) pss_nil) (pss_cons (ps_set (i := 3) scMeet.nd rfl (Or.inl rfl) (pe_bits (pe_op op_xor (pv 1) (pv 2)))) (pss_one (ps_ret (pe_tup (pa_cons (pv 3) (pa_cons (pe_op op_shr (pv 1) (pv 3)) pa_nil))))))))), ?_⟩
    refine ⟨_, rfl, _, rfl, b, x, h, ls, ns, v, rfl, hT, d, hv, fun hb1 => ?_, fun hb1 => qe (.inl hb1)⟩
    refine ⟨_, rfl, _, rfl, b, x, h, ls, ns, u, rfl, hT, d, hu, fun hb2 => ?_, fun hb2 => qe (.inr (.inl hb2))⟩
    have q2 := q hb1 hb2
    obtain ⟨v1, v2, _⟩ := below_int hb1
    obtain ⟨u1, u2, _⟩ := below_int hb2
    generalize iV v = i at *
    generalize iV u = j at *
    subst v1 u1
    refine ⟨_, rfl, _, rfl, rfl, _, rfl, ?_⟩
    have e1 : decide (V.int (i : Nat) = V.int (j : Nat)) = decide (i = j) := by
      rw [dec_int, Bool.eq_iff_iff, beq_iff_eq, decide_eq_true_iff]
      omega
    rw [e1]
    by_cases hij : i = j
    · rw [decide_eq_true hij]
      exact iteT ⟨fun _ h => h, qe (.inr (.inr hij))⟩
    · rw [decide_eq_false hij]
      refine iteF ⟨_, rfl, _, rfl, _, _, rfl, rfl, _, rfl, ?_⟩
      refine ⟨_, rfl, _, rfl, _, rfl, _, _, rfl, rfl, by omega, by show 2 ≤ sizeLine; decide, fun t nt => ?_⟩
      refine q2 hij _ t (same_upd nt) ⟨t, rfl, ?_⟩
      rw [upd_same]
      have e : ((i : Nat) : Int) / 2 ^ ((Builtin.Int.intBits (Builtin.bitXor (i : Int) (j : Int)) : Nat) : Int).toNat = ((i / 2 ^ metL i j : Nat) : Int) := by
        rw [Int.toNat_natCast]
        unfold metL
        push_cast
        rfl
      dsimp only
      rw [e]
      rfl
end
end L2.My
end
section
set_option Elab.async false
set_option linter.all false
set_option maxRecDepth 100000
set_option maxHeartbeats 4000000
/-! The law's own ways, and where two meet. -/
namespace L2.My
open PySem PySem.Spec PyProof.Rows
abbrev sWays : Stmt := top 38
abbrev sMet : Stmt := top 41
/-- two lists of pairs in a list -/
def WaysAt (H : Hp) (a : Addr) (l m : List (Nat × Nat)) : Prop := ∃ p q, H a = some (.lst [.ref p, .ref q]) ∧ PrsAt H p l ∧ PrsAt H q m
def spWays : Sp := fun vs H Q _ => ∃ (h j : Nat), vs = [.int (h : Nat), .int (j : Nat)] ∧ h ≤ 8 ∧ j < 256 ∧ ∀ H' a, Same H H' → WaysAt H' a (pathL h j) (besL h j) → Q (.ref a) H'
def spMet : Sp := fun vs H Q _ => ∃ (i j : Nat), vs = [.int (i : Nat), .int (j : Nat)] ∧ i < 256 ∧ j < 256 ∧ ∀ H' t, Same H H' → PrAt H' (.ref t) (metL i j, i / 2 ^ metL i j) → Q (.ref t) H'
theorem xor_one {x : Nat} (h : x < 256) : x ^^^ 1 = if x % 2 = 0 then x + 1 else x - 1 := by
  have : ∀ y : Fin 256, y.1 ^^^ 1 = if y.1 % 2 = 0 then y.1 + 1 else y.1 - 1 := by decide +kernel
  exact this ⟨x, h⟩
theorem odd_sub {y : Nat} (h : ¬ y % 2 = 0) : ((y : Nat) : Int) - 1 = ((y - 1 : Nat) : Int) := by omega
theorem div_small {j : Nat} (i : Nat) (h : j < 256) : j / 2 ^ i < 256 := Nat.lt_of_le_of_lt (Nat.div_le_self _ _) h
theorem pathL_succ (i j : Nat) : pathL (i + 1) j = pathL i j ++ [(i + 1, j / 2 ^ (i + 1))] := by
  unfold pathL
  rw [List.range_succ, List.map_append]
  rfl
theorem besL_succ (i j : Nat) : besL (i + 1) j = besL i j ++ [(i, (j / 2 ^ i) ^^^ 1)] := by
  unfold besL
  rw [List.range_succ, List.map_append]
  rfl
theorem metL_nat (i j : Nat) : metL i j = if i ^^^ j = 0 then 0 else (i ^^^ j).log2 + 1 := by
  unfold metL Builtin.Int.intBits
  rw [Bits.bitXor_pp (Int.natCast_nonneg _) (Int.natCast_nonneg _), Int.toNat_natCast, Int.toNat_natCast, Int.natAbs_natCast]
  by_cases h : i ^^^ j = 0
  · rw [if_pos h, h]; rfl
  · rw [if_neg h, if_neg (by simp only [beq_iff_eq]; omega)]
theorem metL_self (i : Nat) : metL i i = 0 := by rw [metL_nat, Nat.xor_self, if_pos rfl]
theorem metL_step {i j : Nat} (h : i ≠ j) : metL i j = metL (i / 2) (j / 2) + 1 := by
  have hx : i ^^^ j ≠ 0 := fun e => h (by
    have e2 : (i ^^^ j) ^^^ j = 0 ^^^ j := by rw [e]
    rw [Nat.xor_assoc, Nat.xor_self, Nat.xor_zero, Nat.zero_xor] at e2
    exact e2)
  rw [metL_nat, metL_nat, if_neg hx, ← Nat.xor_div_two]
  by_cases h2 : (i ^^^ j) / 2 = 0
  · rw [if_pos h2]
    have : i ^^^ j = 1 := by omega
    rw [this]
    rfl
  · rw [if_neg h2]
    conv => lhs; rw [Nat.log2_def]
    rw [if_pos (by omega)]
section
variable {P : Program} {w : World} {K : PySem.W.Frag} {mg : Str → Option Value} {base : Heap}
theorem scMet : FnScope ["one", "other", "level", "k"] ["one", "other"] (defScope sMet) := ⟨rfl, rfl, rfl, by decide +kernel, rfl, by decide +kernel, by decide +kernel⟩
theorem ok_met {f : Addr} {fd : FuncData} {k : Nat} (F : Fun K "_law_met" "_law_met" sMet f fd) (T : Tx mg) : FnOk P w K mg base CX0 (k + 1) f fd ["one", "other"] spMet := by
  refine F.ok scMet (fun vs H Q E h => ?_) (fun cdv A outer s H vs Q E hr h => ?_)
  · obtain ⟨i, j, rfl, _⟩ := h
    rfl
  · obtain ⟨i, j, rfl, hi, hj, q⟩ := h
    refine ⟨_, (pss_cons (ps_set (i := 2) scMet.nd rfl (Or.inl rfl) pe_int) (pss_cons (ps_for PassesOwn.never rfl (pi_range1 (by rfl) T.range_ (pa_cons pe_int pa_nil)) (pg_name (i := 3) scMet.nd rfl (Or.inl rfl)) (pss_one (ps_if (pt_cmpR op_ne (pv 0) (pv 1) (nomark _)) (pss_one (ps_par3 (i := 0) (j := 1) (l := 2) rfl scMet.nd rfl rfl rfl (by decide) (by decide) (by decide) rfl rfl rfl (pa_cons (pe_op op_fdiv (pv 0) pe_int) (pa_cons (pe_op op_fdiv (pv 1) pe_int) (pa_cons (pe_op op_add (pv 2) pe_int) pa_nil))) rfl)) pss_nil))) (pss_one (ps_ret (pe_tup (pa_cons (pv 2) (pa_cons (pv 0) pa_nil))))))), ?_⟩
    refine ⟨9, rfl, by decide, by decide, ?_⟩
    refine for_it (walk_range (lo := 0)) (fun n σ G => ∃ (l a b : Nat) (y3 : Option V), σ = [some (.int (a : Nat)), some (.int (b : Nat)), some (.int (l : Nat)), y3] ∧ Same H G ∧ a = i / 2 ^ l ∧ b = j / 2 ^ l ∧ metL i j = l + metL a b ∧ (a = b ∨ l = n)) ⟨0, i, j, _, rfl, Same.refl H, by simp, by simp, by omega, .inr rfl⟩ (fun i σ G _ _ => trivial) ?_ ?_
    · rintro n y σ G G' hn ⟨l, a, b, y3, rfl, sG, ha, hb, hm, hl⟩ ⟨rfl, rfl⟩
      refine ⟨_, rfl, _, rfl, rfl, _, rfl, ?_⟩
      have e1 : decide (V.int (a : Nat) = V.int (b : Nat)) = decide (a = b) := by
        rw [dec_int, Bool.eq_iff_iff, beq_iff_eq, decide_eq_true_iff]
        omega
      rw [e1]
      by_cases hab : a = b
      · rw [decide_eq_true hab]
        exact iteF ⟨l, a, b, _, rfl, sG, ha, hb, hm, .inl hab⟩
      · rw [decide_eq_false hab]
        refine iteT ⟨_, rfl, _, _, rfl, rfl, ⟨by decide, by decide⟩, _, rfl, _, _, rfl, rfl, ⟨by decide, by decide⟩, _, rfl, _, _, rfl, rfl, _, _, _, rfl, ?_⟩
        refine ⟨l + 1, a / 2, b / 2, some (.int (0 + (n : Nat))), ?_, sG, ?_, ?_, ?_, .inr ?_⟩
        · show [some (V.int (((a : Nat) : Int) / 2)), some (V.int (((b : Nat) : Int) / 2)), some (V.int (((l : Nat) : Int) + 1)), some (V.int (0 + (n : Nat)))] = _
          rw [show ((a : Nat) : Int) / 2 = ((a / 2 : Nat) : Int) by omega, show ((b : Nat) : Int) / 2 = ((b / 2 : Nat) : Int) by omega]
          rfl
        · rw [ha, Nat.div_div_eq_div_mul, Nat.pow_succ]
        · rw [hb, Nat.div_div_eq_div_mul, Nat.pow_succ]
        · rw [hm, metL_step hab]; omega
        · rcases hl with z | z
          · exact absurd z hab
          · rw [z]
    · rintro σ G ⟨l, a, b, y3, rfl, sG, ha, hb, hm, hl⟩
      have hab : a = b := by
        rcases hl with z | z
        · exact z
        · have z9 : l = 9 := z
          rw [z9] at ha hb
          have : (2 : Nat) ^ 9 = 512 := by decide
          rw [this] at ha hb
          omega
      have hl2 : metL i j = l := by rw [hm, hab, metL_self]; rfl
      refine ⟨_, rfl, _, rfl, by show 2 ≤ sizeLine; decide, fun t nt => q _ t (sG.trans (same_upd nt)) ⟨t, rfl, ?_⟩⟩
      rw [upd_same, hl2, ha]
theorem scWays : FnScope ["height", "leaf", "above", "others", "index", "level"] ["height", "leaf"] (defScope sWays) := ⟨rfl, rfl, rfl, by decide +kernel, rfl, by decide +kernel, by decide +kernel⟩
theorem ok_ways {f : Addr} {fd : FuncData} {k : Nat} (F : Fun K "_law_ways" "_law_ways" sWays f fd) (T : Tx mg) : FnOk P w K mg base CX0 (k + 1) f fd ["height", "leaf"] spWays := by
  refine F.ok scWays (fun vs H Q E h => ?_) (fun cdv A outer s H vs Q E hr h => ?_)
  · obtain ⟨h, j, rfl, _⟩ := h
    rfl
  · obtain ⟨h, j, rfl, hh, hj, q⟩ := h
    refine ⟨_, (pss_cons (ps_set (i := 2) scWays.nd rfl (Or.inl rfl) (pe_lst pa_nil)) (pss_cons (ps_set (i := 3) scWays.nd rfl (Or.inl rfl) (pe_lst pa_nil)) (pss_cons (ps_set (i := 4) scWays.nd rfl (Or.inl rfl) (pv 1)) (pss_cons (ps_for PassesOwn.never rfl (pi_range1 (by rfl) T.range_ (pa_cons (pv 0) pa_nil)) (pg_name (i := 5) scWays.nd rfl (Or.inl rfl)) (pss_cons (ps_expr (pe_bm PySem.F.plainAttrs_list PySem.F.slot_list_append PySem.F.type_list_append mt_append (pv 3) (pa_cons (pe_tup (pa_cons (pv 5) (pa_cons (pe_ifExp (pt_cmpR op_eq (pe_op op_mod (pe_callTy call_int1 (by rfl) T.int_ (by decide +kernel) (pa_cons (pv 4) pa_nil)) pe_int) pe_int (nomark _)) (pe_op op_add (pv 4) pe_int) (pe_op op_sub (pv 4) pe_int)) pa_nil))) pa_nil))) (pss_cons (ps_set (i := 4) scWays.nd rfl (Or.inl rfl) (pe_op op_fdiv (pv 4) pe_int)) (pss_one (ps_expr (pe_bm PySem.F.plainAttrs_list PySem.F.slot_list_append PySem.F.type_list_append mt_append (pv 2) (pa_cons (pe_tup (pa_cons (pe_op op_add (pv 5) pe_int) (pa_cons (pv 4) pa_nil))) pa_nil))))))) (pss_one (ps_ret (pe_lst (pa_cons (pe_tupleOf (by rfl) T.tuple_ (pv 2)) (pa_cons (pe_tupleOf (by rfl) T.tuple_ (pv 3)) pa_nil))))))))), ?_⟩
    refine ⟨Nat.zero_le _, fun aD naD => ?_⟩
    have s1 := same_upd (o := HO.lst []) naD
    have ha1 : (upd H aD (.lst [])) aD = some (.lst []) := upd_same
    generalize upd H aD (.lst []) = H1 at *
    refine ⟨Nat.zero_le _, fun oD noD => ?_⟩
    have s2 := same_upd (o := HO.lst []) noD
    have ho2 : (upd H1 oD (.lst [])) oD = some (.lst []) := upd_same
    have ha2 := s2 _ _ ha1
    have nao : aD ≠ oD := fun e => by rw [e] at ha1; rw [ha1] at noD; cases noD
    have noH := s1.free noD
    generalize upd H1 oD (.lst []) = H2 at *
    refine ⟨_, rfl, ?_⟩
    refine ⟨_, rfl, _, rfl, by omega, by omega, ?_⟩
    refine for_it (walk_range (lo := 0)) (fun i σ G => ∃ (y5 : Option V) (av ov : List V), σ = [some (.int (h : Nat)), some (.int (j : Nat)), some (.ref aD), some (.ref oD), some (.int ((j / 2 ^ i : Nat) : Int)), y5] ∧ Same H G ∧ G aD = some (.lst av) ∧ G oD = some (.lst ov) ∧ Paired (PrAt G) av (pathL i j) ∧ Paired (PrAt G) ov (besL i j)) ⟨_, [], [], by rw [Nat.pow_zero, Nat.div_one]; rfl, s1.trans s2, ha2, ho2, .nil, .nil⟩ (fun i σ G _ _ => trivial) ?_ ?_
    · rintro i y σ G G' hi ⟨y5, av, ov, rfl, sG, hA, hO, pA, pO⟩ ⟨rfl, hy⟩
      obtain rfl : y = .int ((i : Nat) : Int) := hy.trans (congrArg V.int (by omega))
      have hji := div_small i hj
      have e1 : ((j / 2 ^ i : Nat) : Int) % 2 = ((j / 2 ^ i % 2 : Nat) : Int) := by omega
      dsimp only [gName]
      refine seq_use (fun σ G2 => ∃ ov2, σ = [some (.int (h : Nat)), some (.int (j : Nat)), some (.ref aD), some (.ref oD), some (.int ((j / 2 ^ i : Nat) : Int)), some (.int (i : Nat))] ∧ Same H G2 ∧ G2 aD = some (.lst av) ∧ G2 oD = some (.lst ov2) ∧ Paired (PrAt G2) av (pathL i j) ∧ Paired (PrAt G2) ov2 (besL (i + 1) j)) ?_ (fun hrest => ?_)
      · rintro σ G2 ⟨ov2, rfl, s2', hA2, hO2, pA2, pO2⟩
        refine ⟨_, rfl, _, _, rfl, rfl, ⟨by decide, by decide⟩, ?_⟩
        have e2 : ((j / 2 ^ i : Nat) : Int) / 2 = ((j / 2 ^ (i + 1) : Nat) : Int) := by
          rw [Nat.pow_succ, ← Nat.div_div_eq_div_mul]
          omega
        refine ⟨_, rfl, .inl ⟨rfl, _, SqL.of hA2⟩, _, rfl, _, _, rfl, rfl, _, rfl, by show 2 ≤ sizeLine; decide, fun p np => ?_⟩
        have u := same_upd (o := HO.tup [.int (((i : Nat) : Int) + 1), .int (((j / 2 ^ i : Nat) : Int) / 2)]) np
        have hAu := u _ _ hA2
        have npa : p ≠ aD := fun e => by rw [e, hA2] at np; cases np
        have lav : av.length ≤ 8 := by
          rw [Paired.len pA2]
          unfold pathL
          rw [List.length_map, List.length_range]
          omega
        have tk : TK G2 (upd (upd G2 p (.tup [.int (((i : Nat) : Int) + 1), .int (((j / 2 ^ i : Nat) : Int) / 2)])) aD (.lst (av ++ [.ref p]))) := (TK.same u).trans (.upd hAu (fun _ e => by cases e))
        refine ⟨aD, av, .ref p, rfl, rfl, hAu, Nat.lt_of_le_of_lt lav (by decide), ?_⟩
        refine ⟨some (.int (i : Nat)), av ++ [.ref p], ov2, ?_, same_put (s2'.trans u) naD, upd_same, by rw [upd_ne (Ne.symm nao)]; exact u _ _ hO2, ?_, Paired.mapP pO2 fun _ _ r => r.tk tk⟩
        · show [some (V.int (h : Nat)), some (V.int (j : Nat)), some (V.ref aD), some (V.ref oD), some (V.int (((j / 2 ^ i : Nat) : Int) / 2)), some (V.int (i : Nat))] = _
          rw [e2]
        · rw [pathL_succ]
          exact Paired.snoc (Paired.mapP pA2 fun _ _ r => r.tk tk) ⟨p, rfl, by
            rw [upd_ne npa, upd_same]
            show some (HO.tup [V.int (((i : Nat) : Int) + 1), V.int (((j / 2 ^ i : Nat) : Int) / 2)]) = some (HO.tup [V.int ((i + 1 : Nat) : Int), V.int ((j / 2 ^ (i + 1) : Nat) : Int)])
            rw [e2]
            rfl⟩
      · have go : ∀ z : Int, z = (((j / 2 ^ i) ^^^ 1 : Nat) : Int) → ∀ p, G' p = none → (∃ l xs y, V.ref oD = .ref l ∧ [V.ref p] = [y] ∧ (upd G' p (.tup [.int (i : Nat), .int z])) l = some (.lst xs) ∧ xs.length < sizeLine ∧ ∀ G2, G2 = upd (upd G' p (.tup [.int (i : Nat), .int z])) l (.lst (xs ++ [y])) → ∃ ov2, Same H G2 ∧ G2 aD = some (.lst av) ∧ G2 oD = some (.lst ov2) ∧ Paired (PrAt G2) av (pathL i j) ∧ Paired (PrAt G2) ov2 (besL (i + 1) j)) := by
          intro z hz p np
          have u := same_upd (o := HO.tup [.int (i : Nat), .int z]) np
          have hOu := u _ _ hO
          have npo : p ≠ oD := fun e => by rw [e, hO] at np; cases np
          have lov : ov.length ≤ 8 := by
            rw [Paired.len pO]
            unfold besL
            rw [List.length_map, List.length_range]
            omega
          have tk : TK G' (upd (upd G' p (.tup [.int (i : Nat), .int z])) oD (.lst (ov ++ [.ref p]))) := (TK.same u).trans (.upd hOu (fun _ e => by cases e))
          refine ⟨oD, ov, .ref p, rfl, rfl, hOu, Nat.lt_of_le_of_lt lov (by decide), fun G2 e => ?_⟩
          subst e
          refine ⟨ov ++ [.ref p], same_put (sG.trans u) noH, by rw [upd_ne nao]; exact u _ _ hA, upd_same, Paired.mapP pA fun _ _ r => r.tk tk, ?_⟩
          rw [besL_succ]
          exact Paired.snoc (Paired.mapP pO fun _ _ r => r.tk tk) ⟨p, rfl, by rw [upd_ne npo, upd_same, hz]⟩
        have hx := xor_one hji
        refine ⟨_, rfl, .inl ⟨rfl, _, SqL.of hO⟩, _, rfl, _, rfl, .inl ⟨_, rfl, _, _, rfl, rfl, (by show (0 : Int) < 2; decide), rfl, _, rfl, ?_⟩⟩
        have e3 : decide (V.int (((j / 2 ^ i : Nat) : Int) % 2) = V.int 0) = decide (j / 2 ^ i % 2 = 0) := by
          rw [dec_int, Bool.eq_iff_iff, beq_iff_eq, decide_eq_true_iff]
          omega
        rw [e3]
        by_cases hp : j / 2 ^ i % 2 = 0
        · rw [decide_eq_true hp]
          rw [if_pos hp] at hx
          refine iteT ⟨_, rfl, _, _, rfl, rfl, by show 2 ≤ sizeLine; decide, fun p np => ?_⟩
          obtain ⟨l, xs, y, g1, g2, g3, g4, g5⟩ := go (((j / 2 ^ i : Nat) : Int) + 1) (by rw [hx]; rfl) p np
          obtain ⟨ov2, g6⟩ := g5 _ rfl
          exact ⟨l, xs, y, g1, g2, g3, g4, hrest _ _ ⟨ov2, rfl, g6⟩⟩
        · rw [decide_eq_false hp]
          rw [if_neg hp] at hx
          refine iteF ⟨_, rfl, _, _, rfl, rfl, by show 2 ≤ sizeLine; decide, fun p np => ?_⟩
          obtain ⟨l, xs, y, g1, g2, g3, g4, g5⟩ := go (((j / 2 ^ i : Nat) : Int) - 1) (by rw [hx]; exact odd_sub hp) p np
          obtain ⟨ov2, g6⟩ := g5 _ rfl
          exact ⟨l, xs, y, g1, g2, g3, g4, hrest _ _ ⟨ov2, rfl, g6⟩⟩
    · rintro σ G ⟨y5, av, ov, rfl, sG, hA, hO, pA, pO⟩
      have e : ((h : Nat) : Int).toNat = h := by omega
      rw [e] at pA pO
      refine ⟨_, rfl, .inl ⟨aD, av, rfl, .of hA, fun t1 nt1 => ?_⟩⟩
      have u1 := same_upd (o := HO.tup av) nt1
      refine ⟨_, rfl, .inl ⟨oD, ov, rfl, .of (u1 _ _ hO), fun t2 nt2 => ⟨by show 2 ≤ sizeLine; decide, fun p np => ?_⟩⟩⟩
      have u2 := same_upd (o := HO.tup ov) nt2
      have u3 := same_upd (o := HO.lst [V.ref t1, V.ref t2]) np
      have u := u1.trans (u2.trans u3)
      exact q _ p (sG.trans u) ⟨t1, t2, upd_same, ⟨av, u3 _ _ (u2 _ _ upd_same), Paired.mapP pA fun _ _ r => r.tk (.same u)⟩, ⟨ov, u3 _ _ upd_same, Paired.mapP pO fun _ _ r => r.tk (.same u)⟩⟩
end
end L2.My
end
section
set_option Elab.async false
set_option linter.all false
set_option maxRecDepth 100000
set_option maxHeartbeats 4000000
/-! The law's own resolutions. -/
namespace L2.My
open PySem PySem.Spec PyProof.Rows
abbrev sDr : Stmt := top 39
def dPr (p : Nat × Nat) : PyData := .tuple [.int (p.1 : Nat), .int (p.2 : Nat)]
theorem dpPr {K : PySem.W.Frag} {H : Hp} {a : Addr} {p : Nat × Nat} (h : H a = some (.tup [.int (p.1 : Nat), .int (p.2 : Nat)])) : Dp K H (.ref a) (dPr p) := .tup (.of h) (.cons (.int _) (.cons (.int _) .nil))
theorem eqv_pr (p q : Nat × Nat) : PyData.eqv (dPr p) (dPr q) = decide (p = q) := by
  obtain ⟨a, b⟩ := p
  obtain ⟨c, d⟩ := q
  unfold dPr
  rw [PyData.eqv, PyData.eqvAll, PyData.eqvAll, PyData.eqvAll, eqv_int, eqv_int, Bool.and_true, ← Bool.decide_and]
  exact decide_eq_decide.mpr (by simp only [Prod.mk.injEq, Int.natCast_inj])
theorem shaped_pr (p : Nat × Nat) : SeqAt.shaped (dPr p) = true := by
  unfold SeqAt.shaped dPr
  simp only [PyData.canLay0, PyData.canLayAll0, PyData.depth, PyData.depthAll, Bool.and_true, Bool.true_and]
  exact decide_eq_true (by omega)
theorem fnd_filter (ns : List Nd) (p : Nat × Nat) : (ns.filter fun n => decide (n.1 = p)).head? = fnd ns p := List.head?_filter
theorem prs_cat {K : PySem.W.Frag} {H : Hp} {a b : Addr} {l m : List (Nat × Nat)} {Q : VK} (h1 : PrsAt H a l) (h2 : PrsAt H b m) (hl : l.length + m.length ≤ 200000) (q : ∀ c G, Same H G → PrsAt G c (l ++ m) → Q (.ref c) G) : rCatA K (.ref a) (.ref b) H Q := by
  obtain ⟨xs, x1, x2⟩ := h1
  obtain ⟨ys, y1, y2⟩ := h2
  have e1 := Paired.len x2
  have e2 := Paired.len y2
  exact catA_ref x1 y1 (Nat.le_trans (show xs.length + ys.length ≤ 200000 by omega) (by decide)) fun c G s hc => q c G s ⟨xs ++ ys, hc, paired_app (Paired.mapP x2 fun _ _ r => r.tk (.same s)) (Paired.mapP y2 fun _ _ r => r.tk (.same s))⟩
/-- the parts of a tree in a list -/
def PtIn (H : Hp) (p : Addr) (h : Nat) (ls : List Lf) (ns : List Nd) : Prop := ∃ la na, H p = some (.lst [.int (h : Nat), .ref la, .ref na]) ∧ LvsAt H la ls ∧ NdsAt H na ns
theorem PtIn.same {H H' : Hp} {p : Addr} {h : Nat} {ls : List Lf} {ns : List Nd} (t : PtIn H p h ls ns) (s : Same H H') : PtIn H' p h ls ns := by
  obtain ⟨la, na, h1, h2, h3⟩ := t
  exact ⟨la, na, s _ _ h1, h2.tk (.same s), h3.tk (.same s)⟩
def spDr (n : Nat) : Sp := fun vs H Q _ => ∃ (p pn : Addr) (h : Nat) (ls : List Lf) (ns : List Nd) (lev at' : Nat), vs = [.ref p, .ref pn] ∧ PtIn H p h ls ns ∧ DrT h ls ns ∧ H pn = some (.tup [.int (lev : Nat), .int (at' : Nat)]) ∧ lev ≤ n ∧ lev ≤ h ∧ at' < 2 ^ (h - lev) ∧ ∀ H' t, Same H H' → PrsAt H' t (resL ls ns lev at') → Q (.ref t) H'
/-- a comprehension over numbers that gives pairs (0, number) -/
theorem lcZ {K : PySem.W.Frag} {a : Addr} {js : List Nat} {g : TG} {te : TE} {vs : List Nat} {σ : St} {D : Addr} {Qd : Hp → Prop} {H1 : Hp} (ha : H1 a = some (.tup (nN js))) (hn : js.length ≤ 300) (hD : H1 D = none)
    (hs : ∀ (j : Nat) H (Q' : VK), Same H1 H → (∀ p, H p = none → Q' (.ref p) (upd H p (.tup [.int 0, .int (j : Nat)]))) → g (.int (j : Nat)) (wipe σ vs) H fun σ2 H2 => wipe σ2 vs = wipe σ vs ∧ te σ2 H2 Q')
    (hd : ∀ H us, Same H1 H → H D = some (.lst us) → Paired (PrAt H) us (js.map fun j => (0, j)) → Qd H) : CompOut (Itt K a) g tYes te vs σ D Qd H1 := by
  refine lc_it (walk_tup (xs := nN js)) (tt := tYes) (fun q G6 => Same H1 G6 ∧ ∃ us, G6 D = some (.lst us) ∧ us.length = q ∧ Paired (PrAt G6) us ((js.take q).map fun j => (0, j))) ⟨same_upd hD, [], upd_same, rfl, .nil⟩ (fun q G6 _ hG => .of (hG.1 _ _ ha)) ?_ ?_
  · rintro q y G6 G7 hq ⟨s6, us, hus, hul, hup⟩ ⟨rfl, hy⟩
    obtain ⟨j, hj, rfl⟩ := nN_at hy
    rw [nN_len] at hq
    refine hs j _ _ s6 fun p3 np3 => ?_
    have u7 := same_upd (o := HO.tup [.int 0, .int (j : Nat)]) np3
    have hu := u7 _ _ hus
    have np3D : p3 ≠ D := fun e => by rw [e, hus] at np3; cases np3
    refine ⟨us, hu, Nat.lt_of_le_of_lt (show us.length ≤ 300 by omega) (by decide), same_put (s6.trans u7) hD, us ++ [.ref p3], upd_same, by rw [List.length_append, hul]; rfl, ?_⟩
    have tk7 : TK G7 (upd (upd G7 p3 (.tup [.int 0, .int (j : Nat)])) D (.lst (us ++ [.ref p3]))) := (TK.same u7).trans (.upd hu (fun _ e => by cases e))
    rw [take_snoc hj, List.map_append]
    exact Paired.snoc (Paired.mapP hup fun _ _ r => r.tk tk7) ⟨p3, rfl, by rw [upd_ne np3D, upd_same]; rfl⟩
  · rintro G6 ⟨s6, us, hus, hul, hup⟩
    rw [nN_len, List.take_length] at hup
    exact hd G6 us s6 hus hup
section
variable {P : Program} {w : World} {K : PySem.W.Frag} {mg : Str → Option Value} {base : Heap}
abbrev nDr : List Str := ["parts", "node", "known", "level", "index", "one", "leaf"]
theorem scDr : FnScope nDr ["parts", "node"] (defScope sDr) := ⟨rfl, rfl, rfl, by decide +kernel, rfl, by decide +kernel, by decide +kernel⟩
/-- a leaf: what the first lines give -/
theorem dr_leaf {Q : VK} {E : XK} {H : Hp} {D : Ends} {p pn : Addr} {h : Nat} {ls : List Lf} {ns : List Nd} {at' : Nat} (hD : ∀ v G, Q v G → D.rt v G) (hP : PtIn H p h ls ns) (d : DrT h ls ns) (hpn : H pn = some (.tup [.int ((0 : Nat) : Int), .int (at' : Nat)])) (ha : at' < 2 ^ h) (q : ∀ H' t, Same H H' → PrsAt H' t (resL ls ns 0 at') → Q (.ref t) H') :
    tRet (tIf (tTest (tOp rNotN (tOp (rIxT K) (tOp (rIxL K) (tVar 0) (tC (.int 1))) (tOp (rIxT K) (tVar 1) (tC (.int 1)))) (tC .non))) (tTup (tCons (tTup (tCons (tC (.int 0)) (tCons (tOp (rIxT K) (tVar 1) (tC (.int 1))) tNil))) tNil)) (tTup tNil)) D [some (.ref p), some (.ref pn), none, none, none, none, none] H := by
  obtain ⟨la, na, h1, ⟨xs, hla, hpx⟩, h3⟩ := hP
  have hil : at' < ls.length := by rw [d.ll]; exact ha
  obtain ⟨xv, hxv, hlf⟩ := Paired.at hpx (List.getElem?_eq_getElem hil)
  have eg : ls.getD at' none = ls[at'] := by rw [List.getD_eq_getElem?_getD, List.getElem?_eq_getElem hil]; rfl
  refine ⟨_, rfl, p, _, _, .ref la, rfl, rfl, .of h1, atI_nat (j := 1) rfl, _, rfl, pn, _, _, .int (at' : Nat), rfl, rfl, .of hpn, atI_nat (j := 1) rfl, la, xs, _, xv, rfl, rfl, .of hla, atI_nat hxv, rfl, _, rfl, ?_⟩
  rw [nonN, lf_non hlf]
  rw [resL_zero, eg] at q
  cases hs : ls[at'].isSome with
  | false =>
    rw [hs, if_neg Bool.false_ne_true] at q
    exact iteF ⟨Nat.zero_le _, fun t nt => hD _ _ (q _ t (same_upd nt) ⟨[], upd_same, .nil⟩)⟩
  | true =>
    rw [hs, if_pos rfl] at q
    refine iteT ⟨_, rfl, pn, _, _, .int (at' : Nat), rfl, rfl, .of hpn, atI_nat (j := 1) rfl, by show 2 ≤ sizeLine; decide, fun a na => ⟨by show 1 ≤ sizeLine; decide, fun t nt => hD _ _ ?_⟩⟩
    have u1 := same_upd (o := HO.tup [.int 0, .int (at' : Nat)]) na
    have u2 := same_upd (o := HO.tup [V.ref a]) nt
    exact q _ t (u1.trans u2) ⟨_, upd_same, .cons ⟨a, rfl, u2 _ _ upd_same⟩ .nil⟩
theorem ok_dr0 {f : Addr} {fd : FuncData} {k : Nat} (F : Fun K "_law_due_resolution" "_law_due_resolution" sDr f fd) (T : Tx mg) : FnOk P w K mg base CX0 (k + 1) f fd ["parts", "node"] (spDr 0) := by
  refine F.ok scDr (fun vs H Q E h => ?_) (fun cdv A outer s H vs Q E hr h => ?_)
  · obtain ⟨p, pn, h, ls, ns, lev, at', rfl, _⟩ := h
    rfl
  · obtain ⟨p, pn, h, ls, ns, lev, at', rfl, hP, d, hpn, hl, hlh, ha, q⟩ := h
    obtain rfl : lev = 0 := by omega
    refine ⟨_, pss_cons (ps_if (pt_cmpR op_eq (pe_ix ix_tup (pv 1) pe_int (fun _ _ => rfl)) pe_int (nomark _)) (pss_one (ps_ret (pe_ifExp (pt_cmpR op_notN (pe_ix ix_tup (pe_ix ix_list (pv 0) pe_int (fun _ _ => rfl)) (pe_ix ix_tup (pv 1) pe_int (fun _ _ => rfl)) (fun _ _ => rfl)) pe_non (nomark _)) (pe_tup (pa_cons (pe_tup (pa_cons pe_int (pa_cons (pe_ix ix_tup (pv 1) pe_int (fun _ _ => rfl)) pa_nil))) pa_nil)) (pe_tup pa_nil)))) pss_nil) pss_never, ?_⟩
    refine ⟨_, rfl, pn, _, _, .int ((0 : Nat) : Int), rfl, rfl, .of hpn, atI_nat (j := 0) rfl, rfl, _, rfl, ?_⟩
    rw [show decide (V.int ((0 : Nat) : Int) = V.int 0) = true from rfl]
    exact iteT (dr_leaf (E := E) (fun _ _ h => h) hP d hpn (by simpa using ha) q)
theorem ok_drS {f : Addr} {fd : FuncData} {k n : Nat} (F : Fun K "_law_due_resolution" "_law_due_resolution" sDr f fd) (T : Tx mg) (cR : Cal P w K mg base (k + 1) "_law_due_resolution" ["parts", "node"] (spDr n)) : FnOk P w K mg base CX0 (k + 2) f fd ["parts", "node"] (spDr (n + 1)) := by
  refine F.ok scDr (fun vs H Q E h => ?_) (fun cdv A outer s H vs Q E hr h => ?_)
  · obtain ⟨p, pn, h, ls, ns, lev, at', rfl, _⟩ := h
    rfl
  · obtain ⟨p, pn, h, ls, ns, lev, at', rfl, hP, d, hpn, hl, hlh, ha, q⟩ := h
    refine ⟨_, (pss_cons (ps_if (pt_cmpR op_eq (pe_ix ix_tup (pv 1) pe_int (fun _ _ => rfl)) pe_int (nomark _)) (pss_one (ps_ret (pe_ifExp (pt_cmpR op_notN (pe_ix ix_tup (pe_ix ix_list (pv 0) pe_int (fun _ _ => rfl)) (pe_ix ix_tup (pv 1) pe_int (fun _ _ => rfl)) (fun _ _ => rfl)) pe_non (nomark _)) (pe_tup (pa_cons (pe_tup (pa_cons pe_int (pa_cons (pe_ix ix_tup (pv 1) pe_int (fun _ _ => rfl)) pa_nil))) pa_nil)) (pe_tup pa_nil)))) pss_nil) (pss_cons (ps_setLc (own := [("one", 5)]) (i := 2) (g := gName 5) (te := tVar 5) (tt := tTest (tOp (rEqD K) (tOp (rIxT K) (tVar 5) (tC (.int 0))) (tVar 1))) rfl scDr.nd rfl rfl (sw_true rfl rfl rfl (by decide +kernel)) (pi_tup (pe_ix ix_list (pv 0) pe_int (fun _ _ => rfl))) (blkOk_by (N := nDr) (sc := defScope sDr) (by decide +kernel)) (fun _ _ _ _ _ => pg_name (i := 5) scDr.nd rfl (Or.inl rfl)) (fun _ _ _ _ _ => (pts_one (pt_cmpR (op_eqD hr.units) (pe_ix ix_tup (pv 5) pe_int (fun _ _ => rfl)) (pv 1) (nomark _)))) (fun _ _ _ _ _ => (pv 5))) (pss_cons (ps_if (pt_cmpR op_gt (pe_callB call_len_seq (by rfl) T.len_ PySem.boot_len (pa_cons (pv 2) pa_nil)) pe_int (nomark _)) (pss_one (ps_ret (pe_op op_catA (pe_tup (pa_cons (pv 1) pa_nil)) (pe_tupleOf (by rfl) T.tuple_ (pe_lc (own := [("leaf", 6)]) (g := gName 6) (te := tTup (tCons (tC (.int 0)) (tCons (tVar 6) tNil))) rfl scDr.nd (pi_tup (pe_ix ix_tup (pe_ix ix_list (pv 2) pe_int (fun _ _ => rfl)) pe_int (fun _ _ => rfl))) (blkOk_by (N := nDr) (sc := defScope sDr) (by decide +kernel)) (fun _ _ _ _ _ => pg_name (i := 6) scDr.nd rfl (Or.inl rfl)) (fun _ _ _ _ _ => pts_nil) (fun _ _ _ _ _ => (pe_tup (pa_cons pe_int (pa_cons (pv 6) pa_nil))))))))) pss_nil) (pss_cons (ps_asg (pv 1) (pg_tup rfl (pgs_cons (pg_name (i := 3) scDr.nd rfl (Or.inl rfl)) (pgs_cons (pg_name (i := 4) scDr.nd rfl (Or.inl rfl)) pgs_nil)))) (pss_one (ps_ret (pe_op op_catA (pe_c cR hr (by omega) (by rfl) (pa_cons (pv 0) (pa_cons (pe_tup (pa_cons (pe_op op_sub (pv 3) pe_int) (pa_cons (pe_op op_mul pe_int (pv 4)) pa_nil))) pa_nil))) (pe_c cR hr (by omega) (by rfl) (pa_cons (pv 0) (pa_cons (pe_tup (pa_cons (pe_op op_sub (pv 3) pe_int) (pa_cons (pe_op op_add (pe_op op_mul pe_int (pv 4)) pe_int) pa_nil))) pa_nil)))))))))), ?_⟩
    refine ⟨_, rfl, pn, _, _, .int (lev : Nat), rfl, rfl, .of hpn, atI_nat (j := 0) rfl, rfl, _, rfl, ?_⟩
    cases lev with
    | zero =>
      rw [show decide (V.int ((0 : Nat) : Int) = V.int 0) = true from rfl]
      exact iteT (dr_leaf (E := E) (fun _ _ h => h) hP d hpn (by simpa using ha) q)
    | succ l =>
    rw [show decide (V.int ((l + 1 : Nat) : Int) = V.int 0) = false from decide_eq_false (fun e => by have := V.int.inj e; omega)]
    obtain ⟨la, na, hp, hL, ⟨ws, hna, hpw⟩⟩ := id hP
    have hnl := d.nl
    have hlw := Paired.len hpw
    refine iteF ⟨_, rfl, p, _, _, .ref na, rfl, rfl, .of hp, atI_nat (j := 2) rfl, na, rfl, ⟨_, .of hna⟩, fun D nD => ?_⟩
    refine lc_it (walk_tup (xs := ws)) (fun i G => Same H G ∧ ∃ kv, G D = some (.lst kv) ∧ kv.length ≤ i ∧ Paired (NdAt G) kv ((ns.take i).filter fun n => decide (n.1 = (l + 1, at')))) ⟨same_upd nD, [], upd_same, Nat.le_refl _, .nil⟩ (fun i G _ hG => .of (hG.1 _ _ hna)) ?_ ?_
    · rintro i y G G' hi ⟨sm, kv, hD, hkl, hk⟩ ⟨rfl, hy⟩
      obtain ⟨m, hm, hnd⟩ := Paired.at' hpw hy
      obtain ⟨a, nda, ca, rfl, h1, h2, h3⟩ := id hnd
      refine ⟨rfl, _, rfl, a, _, _, .ref nda, rfl, rfl, .of (sm _ _ h1), atI_nat (j := 0) rfl, _, rfl, dPr m.1, dPr (l + 1, at'), dpPr (sm _ _ h2), dpPr (sm _ _ hpn), shaped_pr _, shaped_pr _, _, rfl, ?_⟩
      rw [eqv_pr, take_snoc hm, List.filter_append]
      cases he : decide (m.1 = (l + 1, at')) with
      | false =>
        refine iteF ⟨sm, kv, hD, by omega, ?_⟩
        rw [List.filter_cons_of_neg (by rw [he]; exact Bool.false_ne_true), List.filter_nil, List.append_nil]
        exact hk
      | true =>
        refine iteT ⟨_, rfl, kv, hD, Nat.lt_of_le_of_lt (show kv.length ≤ 1152 by omega) (by decide), same_put sm nD, kv ++ [.ref a], upd_same, by rw [List.length_append, List.length_singleton]; omega, ?_⟩
        rw [List.filter_cons_of_pos (p := fun n : Nd => decide (n.1 = (l + 1, at'))) he, List.filter_nil]
        have tk : TK G' (upd G' D (.lst (kv ++ [.ref a]))) := .upd hD (fun _ e => by cases e)
        exact Paired.snoc (Paired.mapP hk fun _ _ r => r.tk tk) ((hnd.tk (.same sm)).tk tk)
    · rintro G ⟨sm, kv, hD, hkl, hk⟩
      rw [hlw, List.take_length] at hk
      have hf := fnd_filter ns (l + 1, at')
      generalize ns.filter (fun n => decide (n.1 = (l + 1, at'))) = fl at *
      have hpnG := sm _ _ hpn
      cases fl with
      | nil =>
        have hf0 : fnd ns (l + 1, at') = none := hf.symm
        cases hk
        refine ⟨_, rfl, D, [], rfl, .inl (.of hD), _, _, rfl, rfl, _, rfl, ?_⟩
        refine iteF ?_
        refine ⟨_, rfl, pn, _, rfl, .of hpnG, rfl, _, _, rfl, _, _, rfl, rfl, ?_⟩
        have b2 : 2 * at' + 1 < 2 ^ (h - l) := by
          have e : 2 ^ (h - l) = 2 ^ (h - (l + 1)) * 2 := by rw [← Nat.pow_succ]; congr 1; omega
          omega
        have e1 : ((l + 1 : Nat) : Int) - 1 = ((l : Nat) : Int) := by omega
        refine ⟨_, rfl, _, rfl, _, _, rfl, rfl, _, rfl, _, _, rfl, rfl, .inl ⟨by decide, by decide⟩, by show 2 ≤ sizeLine; decide, fun a1 na1 => ?_⟩
        have u1 := same_upd (o := HO.tup [.int (((l + 1 : Nat) : Int) - 1), .int (2 * ((at' : Nat) : Int))]) na1
        have s1 := sm.trans u1
        refine ⟨p, a1, h, ls, ns, l, 2 * at', rfl, hP.same s1, d, by rw [upd_same]; show some (HO.tup [.int (((l + 1 : Nat) : Int) - 1), .int (2 * ((at' : Nat) : Int))]) = _; rw [e1]; rfl, by omega, by omega, by omega, fun G2 t1 s2 hp1 => ?_⟩
        have s12 := s1.trans s2
        refine ⟨_, rfl, _, rfl, _, _, rfl, rfl, _, rfl, _, _, rfl, rfl, .inl ⟨by decide, by decide⟩, _, _, rfl, rfl, by show 2 ≤ sizeLine; decide, fun a2 na2 => ?_⟩
        have u3 := same_upd (o := HO.tup [.int (((l + 1 : Nat) : Int) - 1), .int (2 * ((at' : Nat) : Int) + 1)]) na2
        have s3 := s12.trans u3
        refine ⟨p, a2, h, ls, ns, l, 2 * at' + 1, rfl, hP.same s3, d, by rw [upd_same]; show some (HO.tup [.int (((l + 1 : Nat) : Int) - 1), .int (2 * ((at' : Nat) : Int) + 1)]) = _; rw [e1]; rfl, by omega, by omega, by omega, fun G4 t2 s4 hp2 => ?_⟩
        have hb : 2 ^ l ≤ 256 := pow8 (by have := d.h8; omega)
        have h1 := resL_len d l (2 * at')
        have h2 := resL_len d l (2 * at' + 1)
        refine prs_cat (hp1.tk (.same (u3.trans s4))) hp2 (by omega) fun c G5 s5 hc => q G5 c (s3.trans (s4.trans s5)) ?_
        rw [resL_succ, hf0]
        exact hc
      | cons m r =>
        have hf0 : fnd ns (l + 1, at') = some m := hf.symm
        cases hk with
        | @cons v _ kv' _ hv _ =>
        obtain ⟨va, nda, ca, rfl, v1, v2, v3⟩ := hv
        have hm := fnd_some hf0
        have hle := (d.gn m hm.1).le
        refine ⟨_, rfl, D, _, rfl, .inl (.of hD), _, _, rfl, rfl, _, rfl, ?_⟩
        rw [decide_eq_true (show (0 : Int) < (((V.ref va :: kv').length : Nat) : Int) by rw [List.length_cons]; omega)]
        refine iteT ⟨_, rfl, by show 1 ≤ sizeLine; decide, fun a1 na1 => ?_⟩
        have u1 := same_upd (o := HO.tup [V.ref pn]) na1
        have ha1 : PrsAt (upd G a1 (.tup [V.ref pn])) a1 [(l + 1, at')] := ⟨_, upd_same, .cons ⟨pn, rfl, u1 _ _ hpnG⟩ .nil⟩
        have hD1 := u1 _ _ hD
        have v11 := u1 _ _ v1
        have v31 := u1 _ _ v3
        generalize upd G a1 (.tup [V.ref pn]) = G1 at *
        refine ⟨_, rfl, D, _, _, .ref va, rfl, rfl, .of hD1, atI_nat (j := 0) rfl, va, _, _, .ref ca, rfl, rfl, .of v11, atI_nat (j := 2) rfl, ca, rfl, ⟨_, .of v31⟩, fun D2 nD2 => ?_⟩
        refine lcZ v31 (by omega) nD2 ?_ ?_
        · intro j G2 Q' s2 hq
          exact ⟨rfl, _, rfl, by show 2 ≤ sizeLine; decide, hq⟩
        · intro G2 us s2 hD2 hup
          refine .inl ⟨D2, us, rfl, .of hD2, fun t nt => ?_⟩
          have u3 := same_upd (o := HO.tup us) nt
          refine prs_cat (ha1.tk (.same (s2.trans u3))) (m := m.2.2.map fun j => (0, j)) ⟨us, upd_same, Paired.mapP hup fun _ _ r => r.tk (.same u3)⟩ (by rw [List.length_map]; show 1 + _ ≤ _; omega) fun c G5 s5 hc => q G5 c (sm.trans (u1.trans (s2.trans (u3.trans s5)))) ?_
          rw [resL_succ, hf0]
          exact hc
end
end L2.My
end
section
set_option Elab.async false
set_option linter.all false
set_option maxRecDepth 100000
set_option maxHeartbeats 4000000
/-! The law's own holders. -/
namespace L2.My
open PySem PySem.Spec PyProof.Rows
abbrev sDh : Stmt := top 40
theorem pw_uniq : ∀ {l m : List Nat}, l.Pairwise (· < ·) → m.Pairwise (· < ·) → (∀ x, x ∈ l ↔ x ∈ m) → l = m
  | [], [], _, _, _ => rfl
  | [], y :: m, _, _, h => absurd ((h y).mpr List.mem_cons_self) (by simp)
  | x :: l, [], _, _, h => absurd ((h x).mp List.mem_cons_self) (by simp)
  | x :: l, y :: m, h1, h2, h => by
    obtain ⟨a1, a2⟩ := List.pairwise_cons.mp h1
    obtain ⟨b1, b2⟩ := List.pairwise_cons.mp h2
    have e : x = y := by
      rcases List.mem_cons.mp ((h x).mp List.mem_cons_self) with z | z
      · exact z
      · rcases List.mem_cons.mp ((h y).mpr List.mem_cons_self) with z2 | z2
        · exact z2.symm
        · have := b1 x z
          have := a1 y z2
          omega
    subst e
    refine congrArg _ (pw_uniq a2 b2 fun z => ⟨fun hz => ?_, fun hz => ?_⟩)
    · rcases List.mem_cons.mp ((h z).mp (List.mem_cons_of_mem _ hz)) with e | e
      · have := a1 z hz; omega
      · exact e
    · rcases List.mem_cons.mp ((h z).mpr (List.mem_cons_of_mem _ hz)) with e | e
      · have := b1 z hz; omega
      · exact e
theorem mem_ben {lev idx j : Nat} : j ∈ benL lev idx ↔ j / 2 ^ lev = idx := by
  refine ⟨fun h => (ben_mem h).1, fun h => ?_⟩
  have h2 := Nat.mod_lt j (Nat.two_pow_pos lev)
  refine List.mem_map.mpr ⟨j % 2 ^ lev, List.mem_range.mpr h2, ?_⟩
  rw [← h, Nat.mul_comm]
  exact Nat.div_add_mod j (2 ^ lev)
theorem mem_pw (ls : List Lf) : (memL ls).Pairwise (· < ·) := List.pairwise_lt_range.sublist List.filter_sublist
theorem mem_memL {ls : List Lf} {j : Nat} : j ∈ memL ls ↔ (ls.getD j none).isSome = true := by
  unfold memL
  rw [List.mem_filter, List.mem_range]
  refine ⟨fun h => h.2, fun h => ⟨?_, h⟩⟩
  apply Classical.byContradiction
  intro z
  rw [List.getD_eq_getElem?_getD, List.getElem?_eq_none (by omega)] at h
  cases h
theorem hold_pw {ls : List Lf} {ns : List Nd} {lev at' : Nat} : (holdL ls ns lev at').Pairwise (· < ·) := by
  unfold holdL
  split
  · exact List.Pairwise.nil
  · exact (mem_pw ls).sublist List.filter_sublist
theorem hold_zero {ls : List Lf} {ns : List Nd} {a : Nat} : holdL ls ns 0 a = if (ls.getD a none).isSome = true then [a] else [] := by
  refine pw_uniq hold_pw (by split <;> simp) fun x => ?_
  unfold holdL asdL
  rw [if_pos rfl]
  dsimp only
  rw [List.mem_filter, mem_memL]
  simp only [Nat.pow_zero, Nat.div_one, List.not_mem_nil, decide_false, Bool.not_false, Bool.and_true, decide_eq_true_eq]
  split
  · rename_i h
    rw [List.mem_singleton]
    exact ⟨fun z => z.2, fun z => ⟨by rw [z]; exact h, z⟩⟩
  · rename_i h
    simp only [List.not_mem_nil, iff_false]
    rintro ⟨z1, z2⟩
    rw [z2] at z1
    exact h z1
theorem hold_some {h : Nat} {ls : List Lf} {ns : List Nd} (d : DrT h ls ns) {l a : Nat} {m : Nd} (hf : fnd ns (l + 1, a) = some m) : holdL ls ns (l + 1) a = (benL (l + 1) a).filter fun j => (ls.getD j none).isSome && !decide (j ∈ m.2.2) := by
  refine pw_uniq hold_pw ((ben_pw (l + 1) a).sublist List.filter_sublist) fun x => ?_
  unfold holdL asdL
  rw [if_neg (by omega), hf]
  show x ∈ (memL ls).filter _ ↔ _
  rw [List.mem_filter, List.mem_filter, mem_memL, mem_ben]
  simp only [Bool.and_eq_true, decide_eq_true_eq]
  exact ⟨fun z => ⟨z.2.1, z.1, z.2.2⟩, fun z => ⟨z.2.1, z.1, z.2.2⟩⟩
theorem hold_none {ls : List Lf} {ns : List Nd} {l a : Nat} (hf : fnd ns (l + 1, a) = none) : holdL ls ns (l + 1) a = [] := by
  unfold holdL asdL
  rw [if_neg (by omega), hf]
  rfl
def spDh : Sp := fun vs H Q _ => ∃ (p pn : Addr) (h : Nat) (ls : List Lf) (ns : List Nd) (lev at' : Nat), vs = [.ref p, .ref pn] ∧ PtIn H p h ls ns ∧ DrT h ls ns ∧ H pn = some (.tup [.int (lev : Nat), .int (at' : Nat)]) ∧ lev ≤ h ∧ at' < 2 ^ (h - lev) ∧ ∀ H' t, Same H H' → H' t = some (.tup (nN (holdL ls ns lev at'))) → Q (.ref t) H'
section
variable {P : Program} {w : World} {K : PySem.W.Frag} {mg : Str → Option Value} {base : Heap}
abbrev nDh : List Str := ["parts", "node", "known", "one", "leaf"]
theorem scDh : FnScope nDh ["parts", "node"] (defScope sDh) := ⟨rfl, rfl, rfl, by decide +kernel, rfl, by decide +kernel, by decide +kernel⟩
theorem ok_dh {f : Addr} {fd : FuncData} {k : Nat} (F : Fun K "_law_due_holders" "_law_due_holders" sDh f fd) (T : Tx mg) (cB : Cal P w K mg base (k + 1) "_law_beneath" ["node"] spBen) : FnOk P w K mg base CX0 (k + 2) f fd ["parts", "node"] spDh := by
  refine F.ok scDh (fun vs H Q E h => ?_) (fun cdv A outer s H vs Q E hr h => ?_)
  · obtain ⟨p, pn, h, ls, ns, lev, at', rfl, _⟩ := h
    rfl
  · obtain ⟨p, pn, h, ls, ns, lev, at', rfl, hP, d, hpn, hlh, ha, q⟩ := h
    refine ⟨_, (pss_cons (ps_if (pt_cmpR op_eq (pe_ix ix_tup (pv 1) pe_int (fun _ _ => rfl)) pe_int (nomark _)) (pss_one (ps_ret (pe_ifExp (pt_cmpR op_notN (pe_ix ix_tup (pe_ix ix_list (pv 0) pe_int (fun _ _ => rfl)) (pe_ix ix_tup (pv 1) pe_int (fun _ _ => rfl)) (fun _ _ => rfl)) pe_non (nomark _)) (pe_tup (pa_cons (pe_ix ix_tup (pv 1) pe_int (fun _ _ => rfl)) pa_nil)) (pe_tup pa_nil)))) pss_nil) (pss_cons (ps_set (i := 2) scDh.nd rfl (Or.inr rfl) (pe_lc (own := [("one", 3)]) (g := gName 3) (te := tVar 3) (tt := tTest (tOp (rEqD K) (tOp (rIxT K) (tVar 3) (tC (.int 0))) (tVar 1))) rfl scDh.nd (pi_tup (pe_ix ix_list (pv 0) pe_int (fun _ _ => rfl))) (blkOk_by (N := nDh) (sc := defScope sDh) (by decide +kernel)) (fun _ _ _ _ _ => pg_name (i := 3) scDh.nd rfl (Or.inl rfl)) (fun _ _ _ _ _ => (pts_one (pt_cmpR (op_eqD hr.units) (pe_ix ix_tup (pv 3) pe_int (fun _ _ => rfl)) (pv 1) (nomark _)))) (fun _ _ _ _ _ => (pv 3)))) (pss_cons (ps_if (pt_cmpR op_eq (pe_callB call_len_seq (by rfl) T.len_ PySem.boot_len (pa_cons (pv 2) pa_nil)) pe_int (nomark _)) (pss_one (ps_ret (pe_tup pa_nil))) pss_nil) (pss_one (ps_ret (pe_tupleOf (by rfl) T.tuple_ (pe_lc (own := [("leaf", 4)]) (g := gName 4) (te := tVar 4) (tt := tAnd (tTest (tOp rNotN (tOp (rIxT K) (tOp (rIxL K) (tVar 0) (tC (.int 1))) (tVar 4)) (tC .non))) (tTest (tOp (rNotInTD K) (tVar 4) (tOp (rIxT K) (tOp (rIxL K) (tVar 2) (tC (.int 0))) (tC (.int 2)))))) rfl scDh.nd (pi_list (pe_c cB hr (by omega) (by rfl) (pa_cons (pv 1) pa_nil))) (blkOk_by (N := nDh) (sc := defScope sDh) (by decide +kernel)) (fun _ _ _ _ _ => (pg_name (i := 4) scDh.nd rfl (Or.inl rfl))) (fun _ _ _ _ _ => (pts_one (pt_and (pt_cmpR op_notN (pe_ix ix_tup (pe_ix ix_list (pv 0) pe_int (fun _ _ => rfl)) (pv 4) (fun _ _ => rfl)) pe_non (nomark _)) (pw_and1 (pt_cmpR (op_notInTD (u65 hr)) (pv 4) (pe_ix ix_tup (pe_ix ix_list (pv 2) pe_int (fun _ _ => rfl)) pe_int (fun _ _ => rfl)) rfl))))) (fun _ _ _ _ _ => (pv 4))))))))), ?_⟩
    refine ⟨_, rfl, pn, _, _, .int (lev : Nat), rfl, rfl, .of hpn, atI_nat (j := 0) rfl, rfl, _, rfl, ?_⟩
    obtain ⟨la, na, hp, ⟨xs, hla, hpx⟩, ⟨ws, hna, hpw⟩⟩ := id hP
    cases lev with
    | zero =>
      rw [show decide (V.int ((0 : Nat) : Int) = V.int 0) = true from rfl]
      have hil : at' < ls.length := by rw [d.ll]; simpa using ha
      obtain ⟨xv, hxv, hlf⟩ := Paired.at hpx (List.getElem?_eq_getElem hil)
      have eg : ls.getD at' none = ls[at'] := by rw [List.getD_eq_getElem?_getD, List.getElem?_eq_getElem hil]; rfl
      refine iteT ⟨_, rfl, p, _, _, .ref la, rfl, rfl, .of hp, atI_nat (j := 1) rfl, _, rfl, pn, _, _, .int (at' : Nat), rfl, rfl, .of hpn, atI_nat (j := 1) rfl, la, xs, _, xv, rfl, rfl, .of hla, atI_nat hxv, rfl, _, rfl, ?_⟩
      rw [nonN, lf_non hlf]
      rw [hold_zero, eg] at q
      cases hs : ls[at'].isSome with
      | false =>
        rw [hs, if_neg Bool.false_ne_true] at q
        exact iteF ⟨Nat.zero_le _, fun t nt => q _ t (same_upd nt) upd_same⟩
      | true =>
        rw [hs, if_pos rfl] at q
        exact iteT ⟨_, rfl, pn, _, _, .int (at' : Nat), rfl, rfl, .of hpn, atI_nat (j := 1) rfl, by show 1 ≤ sizeLine; decide, fun t nt => q _ t (same_upd nt) upd_same⟩
    | succ l =>
    rw [show decide (V.int ((l + 1 : Nat) : Int) = V.int 0) = false from decide_eq_false (fun e => by have := V.int.inj e; omega)]
    have hnl := d.nl
    have hlw := Paired.len hpw
    refine iteF ⟨_, rfl, p, _, _, .ref na, rfl, rfl, .of hp, atI_nat (j := 2) rfl, na, rfl, ⟨_, .of hna⟩, fun D nD => ?_⟩
    refine lc_it (walk_tup (xs := ws)) (fun i G => Same H G ∧ ∃ kv, G D = some (.lst kv) ∧ kv.length ≤ i ∧ Paired (NdAt G) kv ((ns.take i).filter fun n => decide (n.1 = (l + 1, at')))) ⟨same_upd nD, [], upd_same, Nat.le_refl _, .nil⟩ (fun i G _ hG => .of (hG.1 _ _ hna)) ?_ ?_
    · rintro i y G G' hi ⟨sm, kv, hD, hkl, hk⟩ ⟨rfl, hy⟩
      obtain ⟨m, hm, hnd⟩ := Paired.at' hpw hy
      obtain ⟨a, nda, ca, rfl, h1, h2, h3⟩ := id hnd
      refine ⟨rfl, _, rfl, a, _, _, .ref nda, rfl, rfl, .of (sm _ _ h1), atI_nat (j := 0) rfl, _, rfl, dPr m.1, dPr (l + 1, at'), dpPr (sm _ _ h2), dpPr (sm _ _ hpn), shaped_pr _, shaped_pr _, _, rfl, ?_⟩
      rw [eqv_pr, take_snoc hm, List.filter_append]
      cases he : decide (m.1 = (l + 1, at')) with
      | false =>
        refine iteF ⟨sm, kv, hD, by omega, ?_⟩
        rw [List.filter_cons_of_neg (by rw [he]; exact Bool.false_ne_true), List.filter_nil, List.append_nil]
        exact hk
      | true =>
        refine iteT ⟨_, rfl, kv, hD, Nat.lt_of_le_of_lt (show kv.length ≤ 1152 by omega) (by decide), same_put sm nD, kv ++ [.ref a], upd_same, by rw [List.length_append, List.length_singleton]; omega, ?_⟩
        rw [List.filter_cons_of_pos (p := fun n : Nd => decide (n.1 = (l + 1, at'))) he, List.filter_nil]
        have tk : TK G' (upd G' D (.lst (kv ++ [.ref a]))) := .upd hD (fun _ e => by cases e)
        exact Paired.snoc (Paired.mapP hk fun _ _ r => r.tk tk) ((hnd.tk (.same sm)).tk tk)
    · rintro G ⟨sm, kv, hD, hkl, hk⟩
      rw [hlw, List.take_length] at hk
      have hf := fnd_filter ns (l + 1, at')
      generalize ns.filter (fun n => decide (n.1 = (l + 1, at'))) = fl at *
      have hpnG := sm _ _ hpn
      cases fl with
      | nil =>
        have hf0 : fnd ns (l + 1, at') = none := hf.symm
        cases hk
        refine ⟨_, rfl, D, [], rfl, .inl (.of hD), rfl, _, rfl, ?_⟩
        refine iteT ⟨Nat.zero_le _, fun t nt => q _ t (sm.trans (same_upd nt)) ?_⟩
        rw [upd_same, hold_none hf0]
        rfl
      | cons m r =>
        have hf0 : fnd ns (l + 1, at') = some m := hf.symm
        cases hk with
        | @cons v _ kv' _ hv _ =>
        obtain ⟨va, nda, ca, rfl, v1, v2, v3⟩ := hv
        have hm := fnd_some hf0
        have h8 := d.h8
        have b1 : at' < 128 := by
          have e := (d.gn m hm.1).b128 h8
          rw [hm.2] at e
          exact e
        refine ⟨_, rfl, D, _, rfl, .inl (.of hD), rfl, _, rfl, ?_⟩
        rw [show decide (V.int (((V.ref va :: kv').length : Nat) : Int) = V.int 0) = false from decide_eq_false (fun e => by have := V.int.inj e; rw [List.length_cons] at this; omega)]
        refine iteF ⟨_, rfl, pn, l + 1, at', rfl, hpnG, by omega, by omega, fun G2 lb s2 nlb hlb => ⟨lb, rfl, ⟨_, SqL.of hlb⟩, fun D2 nD2 => ?_⟩⟩
        have bl : (benL (l + 1) at').length ≤ 256 := by rw [ben_len]; exact pow8 (by omega)
        have s02 := sm.trans s2
        refine lc_it (walk_list (xs := nN (benL (l + 1) at'))) (fun i G3 => Same G2 G3 ∧ G3 D2 = some (.lst (nN (((benL (l + 1) at').take i).filter fun j => (ls.getD j none).isSome && !decide (j ∈ m.2.2))))) ⟨same_upd nD2, upd_same⟩ (fun i G3 _ hG => .of (hG.1 _ _ hlb)) ?_ ?_
        · rintro i y G3 G4 hi ⟨s3, hD3⟩ ⟨rfl, hy⟩
          obtain ⟨j, hj, rfl⟩ := nN_at hy
          have hjl : j < ls.length := by
            rw [d.ll]
            exact ben_lt (List.mem_of_getElem? hj) ha hlh
          obtain ⟨xv, hxv, hlf⟩ := Paired.at hpx (List.getElem?_eq_getElem hjl)
          have eg : ls.getD j none = ls[j] := by rw [List.getD_eq_getElem?_getD, List.getElem?_eq_getElem hjl]; rfl
          have s03 := s02.trans s3
          refine ⟨rfl, _, rfl, p, _, _, .ref la, rfl, rfl, .of (s03 _ _ hp), atI_nat (j := 1) rfl, _, rfl, la, xs, _, xv, rfl, rfl, .of (s03 _ _ hla), atI_nat hxv, rfl, _, rfl, ?_⟩
          rw [nonN, lf_non hlf, take_snoc hj, List.filter_append]
          cases h1 : ls[j].isSome with
          | false =>
            refine iteF (iteF ⟨s3, ?_⟩)
            rw [List.filter_cons_of_neg (by rw [eg, h1]; exact Bool.false_ne_true), List.filter_nil, List.append_nil]
            exact hD3
          | true =>
            refine iteT ⟨_, rfl, _, rfl, D, _, _, .ref va, rfl, rfl, .of (s3 _ _ (s2 _ _ hD)), atI_nat (j := 0) rfl, va, _, _, .ref ca, rfl, rfl, .of (s3 _ _ (s2 _ _ v1)), atI_nat (j := 2) rfl, rNotInT_nats (s3 _ _ (s2 _ _ v3)) ⟨_, rfl, ?_⟩⟩
            cases h2 : !decide (j ∈ m.2.2) with
            | false =>
              refine iteF ⟨s3, ?_⟩
              rw [List.filter_cons_of_neg (by rw [eg, h1, h2]; exact Bool.false_ne_true), List.filter_nil, List.append_nil]
              exact hD3
            | true =>
              refine iteT ⟨_, rfl, _, hD3, ?_, same_put s3 nD2, ?_⟩
              · rw [nN_len]
                exact Nat.lt_of_le_of_lt (show (((benL (l + 1) at').take i).filter fun j => (ls.getD j none).isSome && !decide (j ∈ m.2.2)).length ≤ 256 from Nat.le_trans (List.length_filter_le _ _) (by rw [List.length_take]; omega)) (by decide)
              · rw [List.filter_cons_of_pos (by rw [eg, h1, h2]; rfl), List.filter_nil, upd_same]
                unfold nN
                rw [List.map_append]
                rfl
        · rintro G3 ⟨s3, hD3⟩
          rw [nN_len, List.take_length] at hD3
          refine .inl ⟨D2, _, rfl, .of hD3, fun t nt => q _ t (s02.trans (s3.trans (same_upd nt))) ?_⟩
          rw [upd_same, hold_some d hf0]
end
end L2.My
end
section
set_option Elab.async false
set_option linter.all false
set_option maxRecDepth 100000
set_option maxHeartbeats 4000000
/-! The parts of a resolution hold what lies beneath. -/
namespace L2.My
open PySem PySem.Spec PyProof.Rows
abbrev sPar : Stmt := top 42
theorem ben_split (l a : Nat) : benL (l + 1) a = benL l (2 * a) ++ benL l (2 * a + 1) := by
  unfold benL
  have e : 2 ^ (l + 1) = 2 ^ l + 2 ^ l := by rw [Nat.pow_succ]; omega
  rw [e, List.range_add, List.map_append, List.map_map]
  congr 1
  · refine List.map_congr_left fun k _ => ?_
    rw [Nat.mul_add, Nat.mul_comm 2 a, Nat.mul_assoc, Nat.two_mul, Nat.mul_add]
  · refine List.map_congr_left fun k _ => ?_
    show a * (2 ^ l + 2 ^ l) + (2 ^ l + k) = (2 * a + 1) * 2 ^ l + k
    rw [Nat.mul_add, Nat.add_mul, Nat.one_mul, Nat.mul_comm 2 a, Nat.mul_assoc, Nat.two_mul, Nat.mul_add]
    omega
def inL (ls : List Lf) (lev at' : Nat) : List Nat := (benL lev at').filter fun j => (ls.getD j none).isSome
theorem leaf_flat {ls : List Lf} {ns : List Nd} : ∀ {as : List Nat}, (∀ j ∈ as, (ls.getD j none).isSome = true) → ((as.map fun j => ((0, j) : Nat × Nat)).flatMap fun p => holdL ls ns p.1 p.2) = as
  | [], _ => rfl
  | j :: r, h => by
    rw [List.map_cons, List.flatMap_cons, leaf_flat fun x hx => h x (List.mem_cons_of_mem _ hx)]
    show holdL ls ns 0 j ++ r = _
    rw [hold_zero, if_pos (h j List.mem_cons_self)]
    rfl
theorem part_perm {h : Nat} {ls : List Lf} {ns : List Nd} (d : DrT h ls ns) : ∀ lev at', ((resL ls ns lev at').flatMap fun p => holdL ls ns p.1 p.2).Perm (inL ls lev at')
  | 0, a => by
    have e : inL ls 0 a = if (ls.getD a none).isSome = true then [a] else [] := by
      unfold inL benL
      rw [Nat.pow_zero]
      show List.filter _ [a * 1 + 0] = _
      rw [Nat.mul_one, Nat.add_zero]
      cases hs : (ls.getD a none).isSome with
      | true => rw [List.filter_cons_of_pos (p := fun j => (ls.getD j none).isSome) hs, if_pos rfl]; rfl
      | false => rw [List.filter_cons_of_neg (p := fun j => (ls.getD j none).isSome) (by rw [hs]; exact Bool.false_ne_true), if_neg Bool.false_ne_true]; rfl
    rw [e, resL_zero]
    split
    · rename_i hs
      show (holdL ls ns 0 a ++ []).Perm _
      rw [hold_zero, if_pos hs]
      exact .refl _
    · exact .nil
  | l + 1, a => by
    rw [resL_succ]
    cases hf : fnd ns (l + 1, a) with
    | none =>
      show ((resL ls ns l (2 * a) ++ resL ls ns l (2 * a + 1)).flatMap _).Perm _
      rw [List.flatMap_append]
      unfold inL
      rw [ben_split, List.filter_append]
      exact (part_perm d l (2 * a)).append (part_perm d l (2 * a + 1))
    | some m =>
      have hm := fnd_some hf
      have ro := d.gn m hm.1
      have has : ∀ j ∈ m.2.2, (ls.getD j none).isSome = true := fun j hj => by
        obtain ⟨_, z, hz⟩ := ro.as j hj
        rw [List.getD_eq_getElem?_getD, hz]
        rfl
      show (((l + 1, a) :: m.2.2.map fun j => (0, j)).flatMap _).Perm _
      rw [List.flatMap_cons, leaf_flat has]
      show (holdL ls ns (l + 1) a ++ m.2.2).Perm _
      rw [hold_some d hf]
      have e1 : m.2.2 = (inL ls (l + 1) a).filter fun j => decide (j ∈ m.2.2) := by
        refine pw_uniq ro.pw (((ben_pw _ _).sublist List.filter_sublist).sublist List.filter_sublist) fun x => ?_
        unfold inL
        rw [List.mem_filter, List.mem_filter, mem_ben, decide_eq_true_eq]
        refine ⟨fun hx => ⟨⟨?_, has x hx⟩, hx⟩, fun z => z.2⟩
        have := (ro.as x hx).1
        rw [hm.2] at this
        exact this
      have e2 : ((benL (l + 1) a).filter fun j => (ls.getD j none).isSome && !decide (j ∈ m.2.2)) = (inL ls (l + 1) a).filter fun j => !decide (j ∈ m.2.2) := by
        unfold inL
        rw [List.filter_filter]
        refine List.filter_congr fun x _ => ?_
        rw [Bool.and_comm]
      rw [e2]
      have key := List.filter_append_perm (fun j => decide (j ∈ m.2.2)) (inL ls (l + 1) a)
      rw [← e1] at key
      exact (List.perm_append_comm).trans key
theorem resL_ok {h : Nat} {ls : List Lf} {ns : List Nd} (d : DrT h ls ns) : ∀ {lev at'}, lev ≤ h → at' < 2 ^ (h - lev) → ∀ p ∈ resL ls ns lev at', p.1 ≤ h ∧ p.2 < 2 ^ (h - p.1)
  | 0, a, hl, ha, p, hp => by
    rw [resL_zero] at hp
    split at hp
    · rw [List.mem_singleton.mp hp]; exact ⟨hl, ha⟩
    · cases hp
  | l + 1, a, hl, ha, p, hp => by
    rw [resL_succ] at hp
    cases hf : fnd ns (l + 1, a) with
    | some m =>
      rw [hf] at hp
      rcases List.mem_cons.mp hp with z | z
      · rw [z]; exact ⟨hl, ha⟩
      · obtain ⟨j, hj, rfl⟩ := List.mem_map.mp z
        obtain ⟨_, y, hy⟩ := (d.gn m (fnd_some hf).1).as j hj
        have := (List.getElem?_eq_some_iff.mp hy).1
        rw [d.ll] at this
        exact ⟨Nat.zero_le _, by simpa using this⟩
    | none =>
      rw [hf] at hp
      have e : 2 ^ (h - l) = 2 ^ (h - (l + 1)) * 2 := by rw [← Nat.pow_succ]; congr 1; omega
      rcases List.mem_append.mp hp with z | z
      · exact resL_ok d (by omega) (by omega) p z
      · exact resL_ok d (by omega) (by omega) p z
theorem rise_uniq : ∀ {l m : List Int}, l.Pairwise (· ≤ ·) → m.Pairwise (· ≤ ·) → l.Perm m → l = m := fun h1 h2 p => p.eq_of_pairwise (fun a b _ _ x y => by omega) h1 h2
theorem eqv_nl (a b : List Nat) : PyData.eqv (.list (a.map fun (j : Nat) => PyData.int j)) (.list (b.map fun (j : Nat) => PyData.int j)) = decide (a = b) := by
  rw [PyData.eqv]
  exact eqvAll_map (fun x y => by rw [eqv_int]; apply decide_eq_decide.mpr; omega) a b
def spPar (C : Addr) : Sp := fun vs H Q _ => ∃ (b g x p pn : Addr) (h : Nat) (ls : List Lf) (ns : List Nd) (lev at' : Nat), vs = [.ref x, .ref p, .ref pn] ∧ BoxAt H b g ∧ TrIn C H x h ls ns ∧ PtIn H p h ls ns ∧ DrT h ls ns ∧ H pn = some (.tup [.int (lev : Nat), .int (at' : Nat)]) ∧ lev ≤ h ∧ at' < 2 ^ (h - lev) ∧ ∀ H', Same H H' → Q (.bl true) H'
theorem node_yes {H : Hp} {pn : Addr} {h lev at' : Nat} (hpn : H pn = some (.tup [.int (lev : Nat), .int (at' : Nat)])) (hl : lev ≤ h) (ha : at' < 2 ^ (h - lev)) : nodeB H h (.ref pn) = true ∧ levV H (.ref pn) = lev ∧ atV H (.ref pn) = at' := by
  have t := tupOf_at hpn
  refine ⟨?_, by unfold levV; rw [t]; rfl, by unfold atV; rw [t]; rfl⟩
  unfold nodeB
  rw [t]
  show (decide (0 ≤ ((lev : Nat) : Int) ∧ ((lev : Nat) : Int) < (h : Int) + 1) && decide (0 ≤ ((at' : Nat) : Int) ∧ ((at' : Nat) : Int) < (2 : Int) ^ (h - ((lev : Nat) : Int).toNat))) = true
  have e : ((2 : Int) ^ (h - ((lev : Nat) : Int).toNat)) = ((2 ^ (h - lev) : Nat) : Int) := by
    rw [Int.toNat_natCast]; push_cast; rfl
  rw [e, decide_eq_true (by omega), decide_eq_true ⟨by omega, Int.ofNat_lt.mpr ha⟩]
  rfl
theorem at_small {h lev at' : Nat} (h8 : h ≤ 8) (ha : at' < 2 ^ (h - lev)) : at' ≤ 1000 := by
  have := pow8 (show h - lev ≤ 8 by omega)
  omega
section
variable {P : Program} {w : World} {K : PySem.W.Frag} {mg : Str → Option Value} {base : Heap} {C NN : Addr}
abbrev nPa : List Str := ["tree", "parts", "node", "found", "held", "one", "leaf"]
theorem scPa : FnScope nPa ["tree", "parts", "node"] (defScope sPar) := ⟨rfl, rfl, rfl, by decide +kernel, rfl, by decide +kernel, by decide +kernel⟩
theorem ok_par {f : Addr} {fd : FuncData} {k : Nat} (F : Fun K "_law_parted" "_law_parted" sPar f fd) (T : Tx mg) (hso : mg "sorted" = none) (cR : CalX P w K mg base (k + 3) "resolution" ["tree", "node"] (spRes C NN)) (cH : CalX P w K mg base (k + 3) "holders" ["tree", "node"] (spHold C NN)) (cB : Cal P w K mg base (k + 3) "_law_beneath" ["node"] spBen) : FnOk P w K mg base CX0 (k + 4) f fd ["tree", "parts", "node"] (spPar C) := by
  refine F.ok scPa (fun vs H Q E h => ?_) (fun cdv A outer s H vs Q E hr h => ?_)
  · obtain ⟨b, g, x, p, pn, h, ls, ns, lev, at', rfl, _⟩ := h
    rfl
  · obtain ⟨b, g, x, p, pn, h, ls, ns, lev, at', rfl, hB, hT, hP, d, hpn, hl, ha, q⟩ := h
    refine ⟨_, (pss_cons (ps_set (i := 3) scPa.nd rfl (Or.inl rfl) (pe_cx cR hr (by omega) (by rfl) pass_no (pa_cons (pv 0) (pa_cons (pv 2) pa_nil)))) (pss_cons (ps_set (i := 4) scPa.nd rfl (Or.inl rfl) (pe_lst pa_nil)) (pss_cons (ps_for PassesOwn.never rfl (pi_tup (pv 3)) (pg_name (i := 5) scPa.nd rfl (Or.inl rfl)) (pss_one (ps_expr (pe_bm PySem.F.plainAttrs_list PySem.F.slot_list_extend PySem.F.type_list_extend mt_extend (pv 4) (pa_cons (pe_callTy call_list_of (by rfl) T.list_ (by decide +kernel) (pa_cons (pe_cx cH hr (by omega) (by rfl) pass_no (pa_cons (pv 0) (pa_cons (pv 5) pa_nil))) pa_nil)) pa_nil))))) (pss_one (ps_ret (pe_cmpR (op_eqD hr.units) (pe_callB cr_sortedI (by rfl) hso (by decide +kernel) (pa_cons (pv 4) pa_nil)) (pe_lc (own := [("leaf", 6)]) (g := gName 6) (te := tVar 6) (tt := tTest (tOp rNotN (tOp (rIxT K) (tOp (rIxL K) (tVar 1) (tC (.int 1))) (tVar 6)) (tC .non))) rfl scPa.nd (pi_list (pe_c cB hr (by omega) (by rfl) (pa_cons (pv 2) pa_nil))) (blkOk_by (N := nPa) (sc := defScope sPar) (by decide +kernel)) (fun _ _ _ _ _ => pg_name (i := 6) scPa.nd rfl (Or.inl rfl)) (fun _ _ _ _ _ => (pts_one (pt_cmpR op_notN (pe_ix ix_tup (pe_ix ix_list (pv 1) pe_int (fun _ _ => rfl)) (pv 6) (fun _ _ => rfl)) pe_non (nomark _)))) (fun _ _ _ _ _ => (pv 6))) (nomark _))))))), ?_⟩
    have h8 := d.h8
    obtain ⟨y1, y2, y3⟩ := node_yes hpn hl ha
    refine ⟨_, rfl, _, rfl, b, x, h, ls, ns, .ref pn, rfl, hT, d, thg_pair hB.nt hpn (by omega) (at_small h8 ha), fun _ H1 t s1 ht => ?_, fun e => by rw [y1] at e; cases e⟩
    rw [y2, y3] at ht
    obtain ⟨fv, ft, fp⟩ := ht
    have hlenF := Paired.len fp
    have hT1 := hT.same s1
    have hB1 := hB.same s1
    refine ⟨Nat.zero_le _, fun hD nhD => ?_⟩
    have s2 := same_upd (o := HO.lst []) nhD
    have hh2 : (upd H1 hD (.lst [])) hD = some (.lst []) := upd_same
    have nhH := s1.free nhD
    have s12 := s1.trans s2
    refine ⟨_, rfl, t, rfl, ⟨_, .of (s2 _ _ ft)⟩, ?_⟩
    have hrl : (resL ls ns lev at').length ≤ 65792 := by
      have h1 := resL_len d lev at'
      have h2 := Nat.mul_le_mul_left 257 (pow8 (show lev ≤ 8 by omega))
      omega
    refine for_it (walk_tup (xs := fv)) (fun i σ G => ∃ y5, σ = [some (.ref x), some (.ref p), some (.ref pn), some (.ref t), some (.ref hD), y5, none] ∧ Same H G ∧ G t = some (.tup fv) ∧ Paired (PrAt G) fv (resL ls ns lev at') ∧ G hD = some (.lst (nN (((resL ls ns lev at').take i).flatMap fun p => holdL ls ns p.1 p.2)))) ⟨_, rfl, s12, s2 _ _ ft, Paired.mapP fp fun _ _ r => r.tk (.same s2), hh2⟩ (fun i σ G _ hG => by obtain ⟨_, _, _, z, _⟩ := hG; exact .of z) ?_ ?_
    · rintro i y σ G G' hi ⟨y5, rfl, sG, hft, hfp, hh⟩ ⟨rfl, hy⟩
      obtain ⟨pq, hpq, a, rfl, hpa⟩ := Paired.at' hfp hy
      obtain ⟨o1, o2⟩ := resL_ok d hl ha pq (List.mem_of_getElem? hpq)
      obtain ⟨z1, z2, z3⟩ := node_yes hpa o1 o2
      have hBG := hB.same sG
      refine ⟨_, rfl, .inl ⟨rfl, _, SqL.of hh⟩, ?_⟩
      refine ⟨_, rfl, _, rfl, b, x, h, ls, ns, .ref a, rfl, hT.same sG, d, thg_pair hBG.nt hpa (by omega) (at_small h8 o2), fun _ G2 m s2 hm => ?_, fun e => by rw [z1] at e; cases e⟩
      rw [z2, z3] at hm
      refine ⟨m, _, rfl, .inr (.of hm), fun ll nll => ?_⟩
      have u := same_upd (o := HO.lst (nN (holdL ls ns pq.1 pq.2))) nll
      have su := s2.trans u
      have hhu := su _ _ hh
      have tot : (((resL ls ns lev at').take (i + 1)).flatMap fun p => holdL ls ns p.1 p.2).length ≤ 256 := by
        have h1 : ((resL ls ns lev at').flatMap fun p => holdL ls ns p.1 p.2).length ≤ 256 := by
          rw [(part_perm d lev at').length_eq]
          exact Nat.le_trans (List.length_filter_le _ _) (by rw [ben_len]; exact pow8 (by omega))
        have h2 : (resL ls ns lev at').flatMap (fun p => holdL ls ns p.1 p.2) = ((resL ls ns lev at').take (i + 1)).flatMap (fun p => holdL ls ns p.1 p.2) ++ ((resL ls ns lev at').drop (i + 1)).flatMap (fun p => holdL ls ns p.1 p.2) := by rw [← List.flatMap_append, List.take_append_drop]
        rw [h2, List.length_append] at h1
        omega
      have ef : ((resL ls ns lev at').take (i + 1)).flatMap (fun p => holdL ls ns p.1 p.2) = ((resL ls ns lev at').take i).flatMap (fun p => holdL ls ns p.1 p.2) ++ holdL ls ns pq.1 pq.2 := by
        rw [take_snoc hpq, List.flatMap_append]
        simp
      have tk : TK G' (upd (upd G2 ll (.lst (nN (holdL ls ns pq.1 pq.2)))) hD (.lst (nN (((resL ls ns lev at').take i).flatMap fun p => holdL ls ns p.1 p.2) ++ nN (holdL ls ns pq.1 pq.2)))) := (TK.same su).trans (.upd hhu (fun _ e => by cases e))
      refine ⟨hD, ll, _, _, rfl, rfl, hhu, upd_same, ?_, ?_⟩
      · rw [ef, List.length_append] at tot
        rw [nN_len, nN_len]
        exact Nat.le_trans tot (by decide)
      · refine ⟨_, rfl, same_put (sG.trans su) nhH, tk _ _ hft, Paired.mapP hfp fun _ _ r => r.tk tk, ?_⟩
        rw [upd_same, ef]
        unfold nN
        rw [List.map_append]
    · rintro σ G ⟨y5, rfl, sG, hft, hfp, hh⟩
      rw [hlenF, List.take_length] at hh
      have perm := part_perm d lev at'
      generalize ((resL ls ns lev at').flatMap fun p => holdL ls ns p.1 p.2) = held at *
      have e1 : nN held = (held.map fun (j : Nat) => (j : Int)).map V.int := by unfold nN; rw [List.map_map]; rfl
      have hpnG := sG _ _ hpn
      obtain ⟨la, na, hp, ⟨xs, hla, hpx⟩, hN⟩ := id (hP.same sG)
      refine ⟨_, rfl, hD, held.map fun (j : Nat) => (j : Int), rfl, .of (by rw [hh, e1]), fun ns' sp perm2 rise nsp => ?_⟩
      have e2 : ns' = (inL ls lev at').map fun (j : Nat) => (j : Int) := by
        refine rise_uniq rise ?_ (perm2.trans (perm.map _))
        rw [List.pairwise_map]
        exact ((ben_pw lev at').sublist List.filter_sublist).imp fun h => by omega
      have u1 := same_upd (o := HO.lst (ns'.map V.int)) nsp
      have hsp : (upd G sp (.lst (ns'.map V.int))) sp = some (.lst (nN (inL ls lev at'))) := by
        rw [upd_same, e2, List.map_map]
        rfl
      generalize upd G sp (.lst (ns'.map V.int)) = G1 at *
      refine ⟨_, rfl, pn, lev, at', rfl, u1 _ _ hpnG, by omega, at_small h8 ha, fun G2 lb s2 nlb hlb => ⟨lb, rfl, ⟨_, SqL.of hlb⟩, fun D2 nD2 => ?_⟩⟩
      have bl : (benL lev at').length ≤ 256 := by rw [ben_len]; exact pow8 (by omega)
      have u2 := u1.trans s2
      refine lc_it (walk_list (xs := nN (benL lev at'))) (fun i G3 => Same G2 G3 ∧ G3 D2 = some (.lst (nN (((benL lev at').take i).filter fun j => (ls.getD j none).isSome)))) ⟨same_upd nD2, upd_same⟩ (fun i G3 _ hG => .of (hG.1 _ _ hlb)) ?_ ?_
      · rintro i y G3 G4 hi ⟨s3, hD3⟩ ⟨rfl, hy⟩
        obtain ⟨j, hj, rfl⟩ := nN_at hy
        have hjl : j < ls.length := by
          rw [d.ll]
          exact ben_lt (List.mem_of_getElem? hj) ha hl
        obtain ⟨xv, hxv, hlf⟩ := Paired.at hpx (List.getElem?_eq_getElem hjl)
        have eg : ls.getD j none = ls[j] := by rw [List.getD_eq_getElem?_getD, List.getElem?_eq_getElem hjl]; rfl
        have s03 := u2.trans s3
        refine ⟨rfl, _, rfl, p, _, _, .ref la, rfl, rfl, .of (s03 _ _ hp), atI_nat (j := 1) rfl, _, rfl, la, xs, _, xv, rfl, rfl, .of (s03 _ _ hla), atI_nat hxv, rfl, _, rfl, ?_⟩
        rw [nonN, lf_non hlf, take_snoc hj, List.filter_append]
        cases h1 : ls[j].isSome with
        | false =>
          refine iteF ⟨s3, ?_⟩
          rw [List.filter_cons_of_neg (p := fun j => (ls.getD j none).isSome) (by rw [eg, h1]; exact Bool.false_ne_true), List.filter_nil, List.append_nil]
          exact hD3
        | true =>
          refine iteT ⟨_, rfl, _, hD3, ?_, same_put s3 nD2, ?_⟩
          · rw [nN_len]
            exact Nat.lt_of_le_of_lt (show (((benL lev at').take i).filter fun j => (ls.getD j none).isSome).length ≤ 256 from Nat.le_trans (List.length_filter_le _ _) (by rw [List.length_take]; omega)) (by decide)
          · rw [List.filter_cons_of_pos (p := fun j => (ls.getD j none).isSome) (by rw [eg]; exact h1), List.filter_nil, upd_same]
            unfold nN
            rw [List.map_append]
            rfl
      · rintro G3 ⟨s3, hD3⟩
        rw [nN_len, List.take_length] at hD3
        refine ⟨.list ((inL ls lev at').map fun (j : Nat) => PyData.int j), .list ((inL ls lev at').map fun (j : Nat) => PyData.int j), .lst (.of (s3 _ _ (s2 _ _ hsp))) (dpNats _), .lst (.of hD3) (dpNats _), shaped_nats _, shaped_nats _, ?_⟩
        rw [eqv_nl, decide_eq_true rfl]
        exact q _ (sG.trans (u2.trans s3))
end
end L2.My
end
section
set_option Elab.async false
set_option linter.all false
set_option maxRecDepth 100000
set_option maxHeartbeats 4000000
/-! What is told of a refusal. -/
namespace L2.My
open PySem PySem.Spec PyProof.Rows
abbrev sTold : Stmt := top 43
/-- the law's own classes of errors, one beside the other -/
structure ErC (K : PySem.W.Frag) (mg : Str → Option Value) (NL NN PE : Addr) : Prop where
  gL : mg "NoLeaf" = some (.ref NL)
  gN : mg "NoNode" = some (.ref NN)
  gP : mg "PostError" = some (.ref PE)
  isi : mg "isinstance" = none
  eLL : PySem.W.exmOne K (.ref NL) (.ref NL) = some true
  eNL : PySem.W.exmOne K (.ref NN) (.ref NL) = some false
  eNN : PySem.W.exmOne K (.ref NN) (.ref NN) = some true
  kLN : PySem.W.kitOne K (.ref NL) (.ref NN) = some false
  kNP : PySem.W.kitOne K (.ref NN) (.ref PE) = some true
  xL : ExcC K NL
  xN : ExcC K NN
def spTold (C : Addr) : Sp := fun vs H Q _ => ∃ (b x : Addr) (h : Nat) (ls : List Lf) (ns : List Nd) (v : V) (w : Nat), vs = [.int (w : Nat), .ref x, v] ∧ TrIn C H x h ls ns ∧ DrT h ls ns ∧ Thg b H v ∧
  ((w ≤ 3 ∧ (belowV (ls.length : Int) v = false ∨ w = 2 ∧ v = .int 0) ∧ ∀ H' t, Same H H' → H' t = some (.tup [.str "leaf", .bl false]) → Q (.ref t) H') ∨
   ((w = 4 ∨ w = 5) ∧ nodeB H h v = false ∧ ∀ H' t, Same H H' → H' t = some (.tup [.str "node", .bl true]) → Q (.ref t) H'))
theorem pss_imp {X : Cx} {st : List Stmt} {t t' : TS} (n : Nat) (hn : X.N.length = n) (h : PSs X st t) (hi : ∀ D σ H, σ.length = n → t' D σ H → t D σ H) : PSs X st t' := ⟨fun pins s σ H D I hw => h.run pins s σ H D I (hi D σ H (I.len.trans hn) hw)⟩
theorem len5 {α : Type} {l : List α} (h : l.length = 5) : ∃ x0 x1 x2 x3 x4, l = [x0, x1, x2, x3, x4] := by
  match l, h with
  | [x0, x1, x2, x3, x4], _ => exact ⟨x0, x1, x2, x3, x4, rfl⟩
def tSui (N : Addr) (w : Str) (z : Bool) (a : Addr) (cls : Value) (d : Option Addr) : TS := fun D σ H => cls = .ref N ∧ d = none ∧ (σ.length = 5 → σ[4]? = some (some (.ref a))) ∧
  ∀ p H2, σ.length = 5 → Same H H2 → H2 p = some (.tup [.str w, .bl z]) → D.nx (σ.set 3 (some (.ref p))) H2
section
variable {P : Program} {w : World} {K : PySem.W.Frag} {mg : Str → Option Value} {base : Heap} {C NL NN PE : Addr}
theorem thg_int {b : Addr} {H : Hp} : Thg b H (.int 0) := fun n => by
  have h0 : Sh0 b H (.int 0) := ⟨⟨_, .int _⟩, (by intro e; cases e), (by intro z e; cases e), by intro i e; cases e; decide⟩
  cases n with
  | zero => exact h0
  | succ n => exact ⟨h0, by intro a xs e; cases e⟩
abbrev nTo : List Str := ["way", "tree", "thing", "found", "error"]
theorem scTold : FnScope nTo ["way", "tree", "thing"] (defScope sTold) := ⟨rfl, rfl, rfl, by decide +kernel, rfl, by decide +kernel, by decide +kernel⟩
theorem ok_told {f : Addr} {fd : FuncData} {k : Nat} (F : Fun K "_law_told" "_law_told" sTold f fd) (M : ErC K mg NL NN PE)
    (cP : CalX P w K mg base (k + 4) "path" ["tree", "leaf"] (spWay C NL pathL)) (cB : CalX P w K mg base (k + 4) "beside" ["tree", "leaf"] (spWay C NL besL))
    (cM : CalX P w K mg base (k + 4) "meeting" ["tree", "one", "other"] (spMeet C NL)) (cR : CalX P w K mg base (k + 3) "resolution" ["tree", "node"] (spRes C NN))
    (cH : CalX P w K mg base (k + 3) "holders" ["tree", "node"] (spHold C NN)) : FnOk P w K mg base CX0 (k + 5) f fd ["way", "tree", "thing"] (spTold C) := by
  refine F.ok scTold (fun vs H Q E h => ?_) (fun cdv A outer s H vs Q E hr h => ?_)
  · obtain ⟨b, x, h, ls, ns, v, w, rfl, _⟩ := h
    rfl
  · obtain ⟨b, x, h, ls, ns, v, wy, rfl, hT, d, hv, q⟩ := h
    refine ⟨_, pss_cons (ps_set (i := 3) scTold.nd rfl (Or.inl rfl) pe_str) (pss_cons (ps_try_nam (X := (cxOf CX0 P w K mg base nTo "_law_told" (defScope sTold) f cdv A outer s H E).nox)
      (l := [(.ref NL, 4, tSui NL "leaf" false), (.ref NN, 4, tSui NN "node" true)])
      (tb := fun W D σ H => ∃ (wy : Nat) (b x : Addr) (h : Nat) (ls : List Lf) (ns : List Nd) (v : V) (y z : Option V), σ = [some (.int (wy : Nat)), some (.ref x), some v, y, z] ∧ TrIn C H x h ls ns ∧ DrT h ls ns ∧ Thg b H v ∧
        ((wy ≤ 3 ∧ (belowV (ls.length : Int) v = false ∨ wy = 2 ∧ v = .int 0) ∧ ∀ σ, W (.ref NL) none σ H) ∨
          ((wy = 4 ∨ wy = 5) ∧ nodeB H h v = false ∧ ∀ σ, W (.ref NN) none σ H)))
      rfl rfl scTold.nd (fun W pn xe tk _ => ?_)
      (.cons rfl rfl ⟨rfl, rfl, .inl M.gL⟩ (fun a oe cls d pn hz hf => pss_imp 5 rfl (pss_one (ps_set (i := 3) scTold.nd rfl (Or.inl rfl) (pe_tup (pa_cons pe_str (pa_cons
          (pe_callB (call_isC (X := (cxOf CX0 P w K mg base nTo "_law_told" (defScope sTold) f cdv A outer s H E).nox) hz hf) (by rfl) M.isi (by decide +kernel) (pa_cons (pv 4) (pa_cons (pe_glob (v := .ref NN) (by rfl) M.gN rfl) pa_nil))) pa_nil))))) ?_)
      (.cons rfl rfl ⟨rfl, rfl, .inl M.gN⟩ (fun a oe cls d pn hz hf => pss_imp 5 rfl (pss_one (ps_set (i := 3) scTold.nd rfl (Or.inl rfl) (pe_tup (pa_cons pe_str (pa_cons
          (pe_callB (call_isC (X := (cxOf CX0 P w K mg base nTo "_law_told" (defScope sTold) f cdv A outer s H E).nox) hz hf) (by rfl) M.isi (by decide +kernel) (pa_cons (pv 4) (pa_cons (pe_glob (v := .ref PE) (by rfl) M.gP rfl) pa_nil))) pa_nil))))) ?_) .nil)))
      (pss_one (ps_ret (pv 3)))), ?_⟩
    · refine ⟨fun pins s' σ H' D I h' => ?_⟩
      obtain ⟨wy, b, x, h, ls, ns, v, y, z, rfl, hT, d, hv, hW⟩ := h'
      obtain ⟨N, hN, hc⟩ : ∃ N, (∀ σ, W (.ref N) none σ H') ∧ ((wy ≤ 3 ∧ N = NL ∧ (belowV (ls.length : Int) v = false ∨ wy = 2 ∧ v = .int 0)) ∨ ((wy = 4 ∨ wy = 5) ∧ N = NN ∧ nodeB H' h v = false)) := by
        rcases hW with ⟨h1, h2, h3⟩ | ⟨h1, h2, h3⟩
        · exact ⟨NL, h3, .inl ⟨h1, rfl, h2⟩⟩
        · exact ⟨NN, h3, .inr ⟨h1, rfl, h2⟩⟩
      have hE : ∀ cls d σ' G, (fun cls d G => cls = Value.ref N ∧ d = none ∧ G = H' : XK) cls d G → W cls d σ' G := by
        rintro cls d σ' G ⟨rfl, rfl, rfl⟩
        exact hN σ'
      refine (pss_one (ps_if (pt_cmpR op_eq (pv 0) pe_int (nomark _)) (pss_one (ps_set (i := 3) scTold.nd rfl (Or.inl rfl) (pe_cx cP hr (by omega) (by rfl) (passes_call tk hE) (pa_cons (pv 1) (pa_cons (pv 2) pa_nil))))) (pss_one (ps_if (pt_cmpR op_eq (pv 0) pe_int (nomark _)) (pss_one (ps_set (i := 3) scTold.nd rfl (Or.inl rfl) (pe_cx cB hr (by omega) (by rfl) (passes_call tk hE) (pa_cons (pv 1) (pa_cons (pv 2) pa_nil))))) (pss_one (ps_if (pt_cmpR op_eq (pv 0) pe_int (nomark _)) (pss_one (ps_set (i := 3) scTold.nd rfl (Or.inl rfl) (pe_cx cM hr (by omega) (by rfl) (passes_call tk hE) (pa_cons (pv 1) (pa_cons (pv 2) (pa_cons pe_int pa_nil)))))) (pss_one (ps_if (pt_cmpR op_eq (pv 0) pe_int (nomark _)) (pss_one (ps_set (i := 3) scTold.nd rfl (Or.inl rfl) (pe_cx cM hr (by omega) (by rfl) (passes_call tk hE) (pa_cons (pv 1) (pa_cons pe_int (pa_cons (pv 2) pa_nil)))))) (pss_one (ps_if (pt_cmpR op_eq (pv 0) pe_int (nomark _)) (pss_one (ps_set (i := 3) scTold.nd rfl (Or.inl rfl) (pe_cx cR hr (by omega) (by rfl) (passes_call tk hE) (pa_cons (pv 1) (pa_cons (pv 2) pa_nil))))) (pss_one (ps_set (i := 3) scTold.nd rfl (Or.inl rfl) (pe_cx cH hr (by omega) (by rfl) (passes_call tk hE) (pa_cons (pv 1) (pa_cons (pv 2) pa_nil))))))))))))))).run pins s' _ H' D I ?_
      rcases hc with ⟨h3, rfl, hb⟩ | ⟨h45, rfl, hb⟩
      · obtain rfl | rfl | rfl | rfl : wy = 0 ∨ wy = 1 ∨ wy = 2 ∨ wy = 3 := by omega
        · have hb : belowV (ls.length : Int) v = false := hb.elim id fun z => absurd z.1 (by decide)
          exact ⟨_, rfl, rfl, _, rfl, iteT ⟨_, rfl, _, rfl, b, x, h, ls, ns, v, rfl, hT, d, hv, (fun e => by rw [hb] at e; cases e), fun _ => ⟨rfl, rfl, rfl⟩⟩⟩
        · have hb : belowV (ls.length : Int) v = false := hb.elim id fun z => absurd z.1 (by decide)
          exact ⟨_, rfl, rfl, _, rfl, iteF ⟨_, rfl, rfl, _, rfl, iteT ⟨_, rfl, _, rfl, b, x, h, ls, ns, v, rfl, hT, d, hv, (fun e => by rw [hb] at e; cases e), fun _ => ⟨rfl, rfl, rfl⟩⟩⟩⟩
        · refine ⟨_, rfl, rfl, _, rfl, iteF ⟨_, rfl, rfl, _, rfl, iteF ⟨_, rfl, rfl, _, rfl, iteT ⟨_, rfl, _, rfl, b, x, h, ls, ns, v, .int 0, rfl, hT, d, hv, thg_int, fun e1 e2 e3 => ?_, fun _ => ⟨rfl, rfl, rfl⟩⟩⟩⟩⟩
          rcases hb with hb | ⟨_, rfl⟩
          · rw [hb] at e1; cases e1
          · exact absurd rfl e3
        · have hb : belowV (ls.length : Int) v = false := hb.elim id fun z => absurd z.1 (by decide)
          exact ⟨_, rfl, rfl, _, rfl, iteF ⟨_, rfl, rfl, _, rfl, iteF ⟨_, rfl, rfl, _, rfl, iteF ⟨_, rfl, rfl, _, rfl, iteT ⟨_, rfl, _, rfl, b, x, h, ls, ns, .int 0, v, rfl, hT, d, thg_int, hv, (fun _ e => by rw [hb] at e; cases e), fun _ => ⟨rfl, rfl, rfl⟩⟩⟩⟩⟩⟩
      · obtain rfl | rfl := h45
        · exact ⟨_, rfl, rfl, _, rfl, iteF ⟨_, rfl, rfl, _, rfl, iteF ⟨_, rfl, rfl, _, rfl, iteF ⟨_, rfl, rfl, _, rfl, iteF ⟨_, rfl, rfl, _, rfl, iteT ⟨_, rfl, _, rfl, b, x, h, ls, ns, v, rfl, hT, d, hv, (fun e => by rw [hb] at e; cases e), fun _ => ⟨rfl, rfl, rfl⟩⟩⟩⟩⟩⟩⟩
        · exact ⟨_, rfl, rfl, _, rfl, iteF ⟨_, rfl, rfl, _, rfl, iteF ⟨_, rfl, rfl, _, rfl, iteF ⟨_, rfl, rfl, _, rfl, iteF ⟨_, rfl, rfl, _, rfl, iteF ⟨_, rfl, _, rfl, b, x, h, ls, ns, v, rfl, hT, d, hv, (fun e => by rw [hb] at e; cases e), fun _ => ⟨rfl, rfl, rfl⟩⟩⟩⟩⟩⟩⟩
    · rintro D σ H2 hl ⟨rfl, rfl, e2, q2⟩
      have e2 := e2 hl
      have q2 := fun p H3 => q2 p H3 hl
      obtain ⟨x0, x1, x2, x3, x4, rfl⟩ := len5 hl
      obtain rfl : x4 = some (.ref a) := Option.some.inj e2
      exact ⟨_, rfl, NL, .ref NN, _, _, rfl, rfl, M.xL, rfl, fun u r => r, M.kLN, by show 2 ≤ sizeLine; decide, fun p np => q2 p _ (same_upd np) upd_same⟩
    · rintro D σ H2 hl ⟨rfl, rfl, e2, q2⟩
      have e2 := e2 hl
      have q2 := fun p H3 => q2 p H3 hl
      obtain ⟨x0, x1, x2, x3, x4, rfl⟩ := len5 hl
      obtain rfl : x4 = some (.ref a) := Option.some.inj e2
      exact ⟨_, rfl, NN, .ref PE, _, _, rfl, rfl, M.xN, rfl, fun u r => r, M.kNP, by show 2 ≤ sizeLine; decide, fun p np => q2 p _ (same_upd np) upd_same⟩
    · refine ⟨wy, b, x, h, ls, ns, v, _, _, rfl, hT, d, hv, ?_⟩
      rcases q with ⟨h3, hb, q⟩ | ⟨h45, hb, q⟩
      · refine .inl ⟨h3, hb, fun σ => ⟨true, M.eLL, fun _ a ha => ⟨rfl, rfl, fun hl => ?_, fun t H2 hl s2 h2 => ?_⟩, fun e => by cases e⟩⟩
        · rw [List.length_set] at hl
          obtain ⟨x0, x1, x2, x3, x4, rfl⟩ := len5 hl
          rfl
        · rw [List.length_set] at hl
          obtain ⟨x0, x1, x2, x3, x4, rfl⟩ := len5 hl
          exact ⟨.ref t, rfl, q H2 t s2 h2⟩
      · refine .inr ⟨h45, hb, fun σ => ⟨false, M.eNL, (fun e => by cases e), fun _ => ⟨true, M.eNN, fun _ a ha => ⟨rfl, rfl, fun hl => ?_, fun t H2 hl s2 h2 => ?_⟩, fun e => by cases e⟩⟩⟩
        · rw [List.length_set] at hl
          obtain ⟨x0, x1, x2, x3, x4, rfl⟩ := len5 hl
          rfl
        · rw [List.length_set] at hl
          obtain ⟨x0, x1, x2, x3, x4, rfl⟩ := len5 hl
          exact ⟨.ref t, rfl, q H2 t s2 h2⟩
end
end L2.My
end
section
set_option Elab.async false
set_option linter.all false
set_option maxRecDepth 100000
set_option maxHeartbeats 4000000
/-! What is refused: the odd things. -/
namespace L2.My
open PySem PySem.Spec PyProof.Rows
abbrev sRfs : Stmt := top 44
def oddL (n : Nat) (t l p : Addr) : List V := [.int (-1), .int (n : Nat), .int ((n : Nat) + 5), .bl true, .bl false, .non, .str "0", .ref t, .ref l, .int (10 ^ 30), .ref p]
theorem odd_leaf {b t l p : Addr} {H : Hp} {n : Nat} (nb : ∀ a, H a ≠ none → (∀ kvs, H a ≠ some (.dK kvs)) → a ≠ b) (ht : H t = some (.tup [.int 0])) (hl : H l = some (.lst [.int 0])) (hp : H p = some (.tup [.int 0, .int 0])) (hn : n ≤ 256) : ∀ v ∈ oddL n t l p, Thg b H v ∧ belowV (n : Int) v = false := by
  have b5 : (256 : Int) + 5 ≤ maxI := by decide
  have i0 : ∀ x ∈ [V.int 0], Thg b H x := fun x hx => by
    rw [List.mem_singleton.mp hx]
    exact .int 0 (by decide)
  have i00 : ∀ x ∈ [V.int 0, V.int 0], Thg b H x := fun x hx => by
    simp only [List.mem_cons, List.not_mem_nil, or_false, or_self] at hx
    rw [hx]
    exact .int 0 (by decide)
  intro v hv
  simp only [oddL, List.mem_cons, List.not_mem_nil, or_false] at hv
  rcases hv with rfl | rfl | rfl | rfl | rfl | rfl | rfl | rfl | rfl | rfl | rfl
  · exact ⟨.int _ (by decide), by simp [belowV]⟩
  · exact ⟨.int _ (by omega), by simp [belowV]⟩
  · exact ⟨.int _ (by omega), by simp [belowV]; omega⟩
  · exact ⟨.boo _, rfl⟩
  · exact ⟨.boo _, rfl⟩
  · exact ⟨.non, rfl⟩
  · exact ⟨.str _ (by decide +kernel), rfl⟩
  · exact ⟨.tup ht (nb _ (by rw [ht]; simp) (by rw [ht]; simp)) (by decide) i0, rfl⟩
  · exact ⟨.lst hl (nb _ (by rw [hl]; simp) (by rw [hl]; simp)), rfl⟩
  · exact ⟨.int _ (by decide), by simp [belowV]; omega⟩
  · exact ⟨.tup hp (nb _ (by rw [hp]; simp) (by rw [hp]; simp)) (by decide) i00, rfl⟩
/-- what the pairs of the thirteen hold, in their order -/
def prsN (h lev : Nat) : List (List V) := [[.int ((h : Nat) + 1), .int 0], [.int (-1), .int 0], [.int (lev : Nat), .int ((2 ^ (h - lev) : Nat) : Int)], [.int (lev : Nat), .int (-1)], [.int 0], [.bl true, .int 0], [.int 0, .bl false], [.str "0", .int 0], [.int 0, .int 0, .int 0], [.int (lev : Nat), .non]]
theorem odd_pair {b a : Addr} {H : Hp} {h lev : Nat} (nb : ∀ a, H a ≠ none → (∀ kvs, H a ≠ some (.dK kvs)) → a ≠ b) (h8 : h ≤ 8) (hl : lev ≤ h) : ∀ xs ∈ prsN h lev, H a = some (.tup xs) → Thg b H (.ref a) ∧ nodeB H h (.ref a) = false := by
  have b5 : (256 : Int) + 5 ≤ maxI := by decide
  have hp : 2 ^ (h - lev) ≤ 256 := pow8 (by omega)
  have i0 : Thg b H (.int 0) := .int 0 (by decide)
  have hpi : ((2 ^ (h - lev) : Nat) : Int) ≤ maxI := Int.le_trans (Int.ofNat_le.mpr hp) (by decide)
  intro xs hx e
  have na : a ≠ b := nb _ (by rw [e]; simp) (by rw [e]; simp)
  have th : (∀ x ∈ xs, Thg b H x) ∧ xs.length ≤ 5000 ∧ (match (some xs : Option (List V)) with | some [x, y] => belowV ((h : Int) + 1) x && belowV ((2 : Int) ^ (h - iV x)) y | _ => false) = false := by
    simp only [prsN, List.mem_cons, List.not_mem_nil, or_false] at hx
    rcases hx with rfl | rfl | rfl | rfl | rfl | rfl | rfl | rfl | rfl | rfl
    · exact ⟨by simpa using ⟨.int _ (by omega), i0⟩, by simp, by simp [belowV]⟩
    · exact ⟨by simpa using ⟨.int _ (by decide), i0⟩, by simp, by simp [belowV]⟩
    · exact ⟨by simpa using ⟨.int _ (by omega), .int _ hpi⟩, by simp, by simp [belowV, iV]⟩
    · exact ⟨by simpa using ⟨.int _ (by omega), .int _ (by decide)⟩, by simp, by simp [belowV]⟩
    · exact ⟨by simpa using i0, by simp, rfl⟩
    · exact ⟨by simpa using ⟨.boo _, i0⟩, by simp, by simp [belowV]⟩
    · exact ⟨by simpa using ⟨i0, .boo _⟩, by simp, by simp [belowV]⟩
    · exact ⟨by simpa using ⟨.str _ (by decide +kernel), i0⟩, by simp, by simp [belowV]⟩
    · exact ⟨by simpa using i0, by simp, rfl⟩
    · exact ⟨by simpa using ⟨.int _ (by omega), .non⟩, by simp, by simp [belowV]⟩
  refine ⟨.tup e na th.2.1 th.1, ?_⟩
  unfold nodeB
  rw [show tupOf H (.ref a) = some xs by show tupO (H a) = _; rw [e]; rfl]
  exact th.2.2
theorem odd_none {b : Addr} {H : Hp} {h : Nat} : Thg b H .non ∧ nodeB H h .non = false := ⟨.non, rfl⟩
theorem odd_zero {b : Addr} {H : Hp} {h : Nat} : Thg b H (.int 0) ∧ nodeB H h (.int 0) = false := ⟨.int _ (by decide), rfl⟩
theorem odd_list {b a : Addr} {H : Hp} {h : Nat} {xs : List V} (e : H a = some (.lst xs)) (n : a ≠ b) : Thg b H (.ref a) ∧ nodeB H h (.ref a) = false := by
  refine ⟨.lst e n, ?_⟩
  unfold nodeB
  rw [show tupOf H (.ref a) = none by show tupO (H a) = _; rw [e]; rfl]
end L2.My
end
section
set_option Elab.async false
set_option linter.all false
set_option maxRecDepth 100000
set_option maxHeartbeats 4000000
namespace L2.My
open PySem PySem.Spec PyProof.Rows
/-- what stands in a heap that grew -/
def Has (H0 H : Hp) (l : List (Addr × HO)) : Prop := Same H0 H ∧ ∀ p ∈ l, H p.1 = some p.2
theorem Has.put {H0 H : Hp} {l : List (Addr × HO)} {a : Addr} {o : HO} (g : Has H0 H l) (n : H a = none) : Has H0 (upd H a o) ((a, o) :: l) :=
  ⟨g.1.trans (same_upd n), fun p hp => (List.mem_cons.mp hp).elim (fun e => by rw [e]; exact upd_same) fun h => same_upd n _ _ (g.2 p h)⟩
theorem Has.same {H0 H H' : Hp} {l : List (Addr × HO)} (g : Has H0 H l) (s : Same H H') : Has H0 H' l := ⟨g.1.trans s, fun p hp => s _ _ (g.2 p hp)⟩
theorem Has.bl {H0 H H' : Hp} {l : List (Addr × HO)} {b gg : Addr} (g : Has H0 H l) (hB : BoxAt H b gg) (s : BL [b] H H') (nd : ∀ p ∈ l, ∀ kvs, p.2 ≠ .dK kvs) : ∀ p ∈ l, H' p.1 = some p.2 := fun p hp => s _ _ (by
  intro hm
  obtain ⟨_, _, _, _, _, _, h1, _⟩ := hB
  have e := g.2 p hp
  rw [List.mem_singleton.mp hm, h1] at e
  exact nd p hp _ (Option.some.inj e).symm) (g.2 p hp)
/-- the thirteen -/
def ndsL (a1 a2 a3 a4 a5 l2 a6 a7 a8 a9 a10 : Addr) : List V := [.ref a1, .ref a2, .ref a3, .ref a4, .ref a5, .ref l2, .non, .int 0, .ref a6, .ref a7, .ref a8, .ref a9, .ref a10]
theorem odd_all {b a1 a2 a3 a4 a5 l2 a6 a7 a8 a9 a10 a0 L7 L8 L9 : Addr} {H : Hp} {h lev m : Nat} {x7 x8 x9 x0 : HO} (nb : ∀ a, H a ≠ none → (∀ kvs, H a ≠ some (.dK kvs)) → a ≠ b) (h8 : h ≤ 8) (hl : lev ≤ h) (em : m = 2 ^ (h - lev))
    (g : ∀ p ∈ ([(L9, x9), (L8, x8), (a10, .tup [.int (lev : Nat), .non]), (a9, .tup [.int 0, .int 0, .int 0]), (a8, .tup [.str "0", .int 0]), (a7, .tup [.int 0, .bl false]), (a6, .tup [.bl true, .int 0]), (L7, x7), (l2, .lst [.int 0, .int 0]), (a5, .tup [.int 0]), (a4, .tup [.int (lev : Nat), .int (-1)]), (a3, .tup [.int (lev : Nat), .int (m : Nat)]), (a0, x0), (a2, .tup [.int (-1), .int 0]), (a1, .tup [.int ((h : Nat) + 1), .int 0])] : List (Addr × HO)), H p.1 = some p.2) :
    ∀ v ∈ ndsL a1 a2 a3 a4 a5 l2 a6 a7 a8 a9 a10, Thg b H v ∧ nodeB H h v = false := by
  subst em
  have pr := fun a xs hx => odd_pair (a := a) nb h8 hl xs hx
  intro v hv
  simp only [ndsL, List.mem_cons, List.not_mem_nil, or_false] at hv
  rcases hv with rfl | rfl | rfl | rfl | rfl | rfl | rfl | rfl | rfl | rfl | rfl | rfl | rfl
  · exact pr _ [.int ((h : Nat) + 1), .int 0] (by simp [prsN]) (g (a1, .tup [.int ((h : Nat) + 1), .int 0]) (by simp))
  · exact pr _ _ (by simp [prsN]) (g (a2, .tup [.int (-1), .int 0]) (by simp))
  · exact pr _ _ (by simp [prsN]) (g (a3, .tup [.int (lev : Nat), .int ((2 ^ (h - lev) : Nat) : Int)]) (by simp))
  · exact pr _ _ (by simp [prsN]) (g (a4, .tup [.int (lev : Nat), .int (-1)]) (by simp))
  · exact pr _ _ (by simp [prsN]) (g (a5, .tup [.int 0]) (by simp))
  · have e := g (l2, .lst [.int 0, .int 0]) (by simp)
    exact odd_list e (nb _ (by rw [e]; simp) (by rw [e]; simp))
  · exact odd_none
  · exact odd_zero
  · exact pr _ _ (by simp [prsN]) (g (a6, .tup [.bl true, .int 0]) (by simp))
  · exact pr _ _ (by simp [prsN]) (g (a7, .tup [.int 0, .bl false]) (by simp))
  · exact pr _ _ (by simp [prsN]) (g (a8, .tup [.str "0", .int 0]) (by simp))
  · exact pr _ _ (by simp [prsN]) (g (a9, .tup [.int 0, .int 0, .int 0]) (by simp))
  · exact pr _ _ (by simp [prsN]) (g (a10, .tup [.int (lev : Nat), .non]) (by simp))
/-! ### a text and a flag -/
def dSb (z : Str) (c : Bool) : PyData := .tuple [.str z, .bool c]
theorem dpSb {K : PySem.W.Frag} {H : Hp} {a : Addr} {z : Str} {c : Bool} (h : H a = some (.tup [.str z, .bl c])) : Dp K H (.ref a) (dSb z c) := .tup (.of h) (.cons (.str _) (.cons (.bl _) .nil))
theorem shaped_sb (z : Str) (c : Bool) (h : z.cps.toList.all (fun c => decide (c < 128)) = true) : SeqAt.shaped (dSb z c) = true := shaped_of (.tup (.cons (low_str h) (.cons (.boo _) .nil))) (by
  simp only [dSb, PyData.depth, PyData.depthAll]
  omega)
theorem eqv_sb (z : Str) (c : Bool) : PyData.eqv (dSb z c) (dSb z c) = true := by
  unfold dSb
  rw [PyData.eqv, PyData.eqvAll, PyData.eqvAll, PyData.eqvAll, eqv_s]
  cases c <;> simp [PyData.eqv]
theorem BoxAt.nk {H : Hp} {b g : Addr} (h : BoxAt H b g) : ∀ a, H a ≠ none → (∀ kvs, H a ≠ some (.dK kvs)) → a ≠ b := fun a _ hk hab => by
  obtain ⟨_, _, _, _, _, _, z, _⟩ := h
  rw [hab, z] at hk
  exact hk _ rfl
/-! ### what stands while the box is drawn from -/
theorem TrIn.bl {C : Addr} {H H' : Hp} {x b g : Addr} {h : Nat} {ls : List Lf} {ns : List Nd} (t : TrIn C H x h ls ns) (hB : BoxAt H b g) (s : BL [b] H H') : TrIn C H' x h ls ns := by
  obtain ⟨dx, la, na, h1, h2, h3⟩ := id t
  refine t.tk (hB.tk s) ((s _ _ ?_ h1).trans h1.symm)
  obtain ⟨_, _, _, _, _, _, e, _⟩ := hB
  intro hm
  rw [List.mem_singleton.mp hm, e] at h1
  cases h1
theorem PtIn.bl {H H' : Hp} {p b g : Addr} {h : Nat} {ls : List Lf} {ns : List Nd} (t : PtIn H p h ls ns) (hB : BoxAt H b g) (s : BL [b] H H') : PtIn H' p h ls ns := by
  have tk := hB.tk s
  obtain ⟨la, na, h1, h2, h3⟩ := t
  refine ⟨la, na, s _ _ ?_ h1, h2.tk tk, h3.tk tk⟩
  obtain ⟨_, _, _, _, _, _, e, _⟩ := hB
  intro hm
  rw [List.mem_singleton.mp hm, e] at h1
  cases h1
def spRfs (C : Addr) : Sp := fun vs H Q _ => ∃ (b g x p : Addr) (h : Nat) (ls : List Lf) (ns : List Nd), vs = [.ref b, .ref x, .ref p] ∧ BoxAt H b g ∧ TrIn C H x h ls ns ∧ PtIn H p h ls ns ∧ DrT h ls ns ∧ ∀ H', BL [b] H H' → BoxAt H' b g → Q (.bl true) H'
section
variable {P : Program} {w : World} {K : PySem.W.Frag} {mg : Str → Option Value} {base : Heap} {C : Addr}
abbrev nRf : List Str := ["box", "tree", "parts", "many", "leaf", "height", "level", "nodes", "node", "way"]
theorem scRf : FnScope nRf ["box", "tree", "parts"] (defScope sRfs) := ⟨rfl, rfl, rfl, by decide +kernel, rfl, by decide +kernel, by decide +kernel⟩
theorem ok_rfs {f : Addr} {fd : FuncData} {k : Nat} (F : Fun K "_law_refused" "_law_refused" sRfs f fd) (T : Tx mg) (cD : Cal P w K mg base (k + 5) "_law_draw" ["box", "menu"] spDraw) (cB : Cal P w K mg base (k + 5) "_law_beneath" ["node"] spBen) (cT : Cal P w K mg base (k + 5) "_law_told" ["way", "tree", "thing"] (spTold C)) : FnOk P w K mg base CX0 (k + 6) f fd ["box", "tree", "parts"] (spRfs C) := by
  refine F.ok scRf (fun vs H Q E h => ?_) (fun cdv A outer s H vs Q E hr h => ?_)
  · obtain ⟨b, g, x, p, h, ls, ns, rfl, _⟩ := h
    rfl
  · obtain ⟨b, g, x, p, h, ls, ns, rfl, hB, hT, hP, d, q⟩ := h
    refine ⟨_, (pss_cons (ps_set (i := 3) scRf.nd rfl (Or.inl rfl) (pe_callB call_len_seq (by rfl) T.len_ PySem.boot_len (pa_cons (pe_ix ix_list (pv 2) pe_int (fun _ _ => rfl)) pa_nil))) (pss_cons (ps_set (i := 4) scRf.nd rfl (Or.inl rfl) (pe_ix ix_list (pe_lst (pa_cons (pe_un un_neg pe_int) (pa_cons (pv 3) (pa_cons (pe_op op_add (pv 3) pe_int) (pa_cons pe_bl (pa_cons pe_bl (pa_cons pe_non (pa_cons pe_str (pa_cons (pe_tup (pa_cons pe_int pa_nil)) (pa_cons (pe_lst (pa_cons pe_int pa_nil)) (pa_cons (pe_op op_pow pe_int pe_int) (pa_cons (pe_tup (pa_cons pe_int (pa_cons pe_int pa_nil))) pa_nil)))))))))))) (pe_c cD hr (by omega) (by rfl) (pa_cons (pv 0) (pa_cons pe_int pa_nil))) (fun _ _ => rfl))) (pss_cons (ps_set (i := 5) scRf.nd rfl (Or.inl rfl) (pe_ix ix_list (pv 2) pe_int (fun _ _ => rfl))) (pss_cons (ps_set (i := 6) scRf.nd rfl (Or.inl rfl) (pe_c cD hr (by omega) (by rfl) (pa_cons (pv 0) (pa_cons (pe_op op_add (pv 5) pe_int) pa_nil)))) (pss_cons (ps_set (i := 7) scRf.nd rfl (Or.inl rfl) (pe_lst (pa_cons (pe_tup (pa_cons (pe_op op_add (pv 5) pe_int) (pa_cons pe_int pa_nil))) (pa_cons (pe_tup (pa_cons (pe_un un_neg pe_int) (pa_cons pe_int pa_nil))) (pa_cons (pe_tup (pa_cons (pv 6) (pa_cons (pe_callB call_len_seq (by rfl) T.len_ PySem.boot_len (pa_cons (pe_c cB hr (by omega) (by rfl) (pa_cons (pe_tup (pa_cons (pe_op op_sub (pv 5) (pv 6)) (pa_cons pe_int pa_nil))) pa_nil)) pa_nil)) pa_nil))) (pa_cons (pe_tup (pa_cons (pv 6) (pa_cons (pe_un un_neg pe_int) pa_nil))) (pa_cons (pe_tup (pa_cons pe_int pa_nil)) (pa_cons (pe_lst (pa_cons pe_int (pa_cons pe_int pa_nil))) (pa_cons pe_non (pa_cons pe_int pa_nil)))))))))) (pss_cons (ps_set (i := 7) scRf.nd rfl (Or.inl rfl) (pe_op op_cat (pv 7) (pe_lst (pa_cons (pe_tup (pa_cons pe_bl (pa_cons pe_int pa_nil))) (pa_cons (pe_tup (pa_cons pe_int (pa_cons pe_bl pa_nil))) (pa_cons (pe_tup (pa_cons pe_str (pa_cons pe_int pa_nil))) (pa_cons (pe_tup (pa_cons pe_int (pa_cons pe_int (pa_cons pe_int pa_nil)))) (pa_cons (pe_tup (pa_cons (pv 6) (pa_cons pe_non pa_nil))) pa_nil)))))))) (pss_cons (ps_set (i := 8) scRf.nd rfl (Or.inl rfl) (pe_ix ix_list (pv 7) (pe_c cD hr (by omega) (by rfl) (pa_cons (pv 0) (pa_cons (pe_callB call_len_seq (by rfl) T.len_ PySem.boot_len (pa_cons (pv 7) pa_nil)) pa_nil))) (fun _ _ => rfl))) (pss_cons (ps_for PassesOwn.never rfl (pi_range1 (by rfl) T.range_ (pa_cons pe_int pa_nil)) (pg_name (i := 9) scRf.nd rfl (Or.inl rfl)) (pss_one (ps_if (pt_cmpR (op_neD hr.units) (pe_c cT hr (by omega) (by rfl) (pa_cons (pv 9) (pa_cons (pv 1) (pa_cons (pv 4) pa_nil)))) (pe_tup (pa_cons pe_str (pa_cons pe_bl pa_nil))) (nomark _)) (pss_one (ps_ret pe_bl)) pss_nil))) (pss_one (ps_ret (pe_and (pe_cmpR (op_eqD hr.units) (pe_c cT hr (by omega) (by rfl) (pa_cons pe_int (pa_cons (pv 1) (pa_cons (pv 8) pa_nil)))) (pe_tup (pa_cons pe_str (pa_cons pe_bl pa_nil))) (nomark _)) (pe_one (pe_cmpR (op_eqD hr.units) (pe_c cT hr (by omega) (by rfl) (pa_cons pe_int (pa_cons (pv 1) (pa_cons (pv 8) pa_nil)))) (pe_tup (pa_cons pe_str (pa_cons pe_bl pa_nil))) (nomark _)))))))))))))), ?_⟩
    obtain ⟨la, na, hp, hL, hN⟩ := id hP
    refine ⟨_, rfl, p, _, _, .ref la, rfl, rfl, .of hp, atI_nat (j := 1) rfl, ?_⟩
    obtain ⟨lv, hla, hpl⟩ := id hL
    have hlv : lv.length = ls.length := Paired.len hpl
    have l256 := d.l256
    refine ⟨la, _, rfl, .inr (.of hla), ?_⟩
    refine ⟨_, rfl, _, rfl, ?_⟩
    refine ⟨_, rfl, _, _, rfl, rfl, ?_⟩
    refine ⟨by show 1 ≤ sizeLine; decide, fun t1 n1 => ⟨by show 1 ≤ sizeLine; decide, fun l1 nl1 => ?_⟩⟩
    refine ⟨_, _, rfl, rfl, ⟨by decide, by decide⟩, ?_⟩
    refine ⟨by show 2 ≤ sizeLine; decide, fun p1 np1 => ⟨by show 11 ≤ sizeLine; decide, fun L nL => ?_⟩⟩
    rw [hlv] at *
    have u1 := same_upd (o := HO.tup [.int 0]) n1
    have u2 := same_upd (o := HO.lst [.int 0]) nl1
    have u3 := same_upd (o := HO.tup [.int 0, .int 0]) np1
    have u4 := same_upd (o := HO.lst (oddL ls.length t1 l1 p1)) nL
    have e1 := u4 _ _ (u3 _ _ (u2 _ _ (upd_same (H := H) (a := t1) (o := HO.tup [.int 0]))))
    have e2 := u4 _ _ (u3 _ _ (upd_same (a := l1) (o := HO.lst [.int 0])))
    have e3 := u4 _ _ (upd_same (a := p1) (o := HO.tup [.int 0, .int 0]))
    have e4 := upd_same (H := upd (upd (upd H t1 (.tup [.int 0])) l1 (.lst [.int 0])) p1 (.tup [.int 0, .int 0])) (a := L) (o := HO.lst (oddL ls.length t1 l1 p1))
    have u := ((u1.trans u2).trans u3).trans u4
    have hB4 := hB.same u
    have nL0 : L ≠ b := (hB.same ((u1.trans u2).trans u3)).nb nL
    have nl0 : l1 ≠ b := (hB.same u1).nb nl1
    show tCall spDraw [] E0 _ _ (upd (upd (upd (upd H t1 (.tup [.int 0])) l1 (.lst [.int 0])) p1 (.tup [.int 0, .int 0])) L (.lst (oddL ls.length t1 l1 p1))) _
    generalize upd (upd (upd (upd H t1 (.tup [.int 0])) l1 (.lst [.int 0])) p1 (.tup [.int 0, .int 0])) L (.lst (oddL ls.length t1 l1 p1)) = H1 at *
    refine ⟨_, rfl, b, g, 11, rfl, hB4, by decide, by decide, fun H2 r bl2 hB2 r0 r1 => ?_⟩
    obtain ⟨j, rfl⟩ : ∃ j : Nat, r = j := ⟨r.toNat, by omega⟩
    have hj : j < (oddL ls.length t1 l1 p1).length := by show j < 11; omega
    have ej := List.getElem?_eq_getElem hj
    obtain ⟨tv, bv⟩ := odd_leaf (b := b) (n := ls.length) (fun a ha hk hab => by
      obtain ⟨_, _, _, _, _, _, z, _⟩ := hB4
      rw [hab, z] at hk
      exact hk _ rfl) e1 e2 e3 l256 _ (List.getElem_mem hj)
    generalize (oddL ls.length t1 l1 p1)[j] = v at *
    have tv2 := tv.bl bl2
    refine ⟨L, _, _, v, rfl, rfl, .of (bl2 _ _ (by simpa using nL0) e4), atI_nat ej, ?_⟩
    have h8 := d.h8
    have pb : p ≠ b := fun z => by
      obtain ⟨_, _, _, _, _, _, e, _⟩ := hB
      rw [z, e] at hp
      cases hp
    have hp2 := bl2 _ _ (by simpa using pb) (u _ _ hp)
    refine ⟨_, rfl, p, _, _, .int (h : Nat), rfl, rfl, .of hp2, atI_nat (j := 0) rfl, ?_⟩
    refine ⟨_, rfl, _, rfl, _, _, rfl, rfl, b, g, (h : Int) + 1, rfl, hB2, by omega, Nat.lt_of_le_of_lt (show ((h : Int) + 1).natAbs ≤ 9 by omega) (by decide), fun H3 r3 bl3 hB3 r30 r31 => ?_⟩
    obtain ⟨lev, rfl⟩ : ∃ j : Nat, r3 = j := ⟨r3.toNat, by omega⟩
    have hlev : lev ≤ h := by omega
    have tv3 := tv2.bl bl3
    have bl13 := bl2.trans bl3
    refine ⟨_, rfl, _, _, rfl, rfl, by show 2 ≤ sizeLine; decide, fun a1 m1 => ⟨_, rfl, by show 2 ≤ sizeLine; decide, fun a2 m2 => ?_⟩⟩
    refine ⟨_, rfl, _, rfl, _, rfl, _, _, rfl, rfl, by show 2 ≤ sizeLine; decide, fun a0 m0 => ?_⟩
    refine ⟨a0, h - lev, 0, rfl, by rw [upd_same, Int.natCast_sub hlev]; rfl, by omega, by omega, fun G1 lb sb nlb hlb => ⟨lb, _, rfl, .inl (.of hlb), by show 2 ≤ sizeLine; decide, fun a3 m3 => ?_⟩⟩
    refine ⟨_, rfl, _, rfl, by show 2 ≤ sizeLine; decide, fun a4 m4 => ⟨by show 1 ≤ sizeLine; decide, fun a5 m5 => ⟨by show 2 ≤ sizeLine; decide, fun l2 nl2 => ⟨by show 8 ≤ sizeLine; decide, fun L7 nL7 => ?_⟩⟩⟩⟩
    refine ⟨_, rfl, by show 2 ≤ sizeLine; decide, fun a6 m6 => ⟨by show 2 ≤ sizeLine; decide, fun a7 m7 => ⟨by show 2 ≤ sizeLine; decide, fun a8 m8 => ⟨by show 3 ≤ sizeLine; decide, fun a9 m9 => ?_⟩⟩⟩⟩
    refine ⟨_, rfl, by show 2 ≤ sizeLine; decide, fun a10 m10 => ⟨by show 5 ≤ sizeLine; decide, fun L8 nL8 => ?_⟩⟩
    refine ⟨L7, L8, [.ref a1, .ref a2, .ref a3, .ref a4, .ref a5, .ref l2, .non, .int 0], _, rfl, rfl, same_upd nL8 _ _ (same_upd m10 _ _ (same_upd m9 _ _ (same_upd m8 _ _ (same_upd m7 _ _ (same_upd m6 _ _ upd_same))))), upd_same, by show 13 ≤ sizeLine; decide, fun L9 nL9 => ?_⟩
    have g0 : Has H3 H3 [] := ⟨.refl _, fun _ h => nomatch h⟩
    have gA := (((g0.put (o := .tup [.int ((h : Nat) + 1), .int 0]) m1).put (o := .tup [.int (-1), .int 0]) m2).put (o := .tup [.int ((h : Nat) - (lev : Nat)), .int 0]) m0).same sb
    have gB := ((((gA.put (o := .tup [.int (lev : Nat), .int ((nN (benL (h - lev) 0)).length : Nat)]) m3).put (o := .tup [.int (lev : Nat), .int (-1)]) m4).put (o := .tup [.int 0]) m5).put (o := .lst [.int 0, .int 0]) nl2).put (o := .lst [.ref a1, .ref a2, .ref a3, .ref a4, .ref a5, .ref l2, .non, .int 0]) nL7
    have gC := (((((gB.put (o := .tup [.bl true, .int 0]) m6).put (o := .tup [.int 0, .bl false]) m7).put (o := .tup [.str "0", .int 0]) m8).put (o := .tup [.int 0, .int 0, .int 0]) m9).put (o := .tup [.int (lev : Nat), .non]) m10).put (o := .lst [.ref a6, .ref a7, .ref a8, .ref a9, .ref a10]) nL8
    have gD := gC.put (o := .lst (ndsL a1 a2 a3 a4 a5 l2 a6 a7 a8 a9 a10)) nL9
    have hBD := hB3.same gD.1
    have hTD := (((hT.same u).bl hB4 bl2).bl hB2 bl3).same gD.1
    have tv4 := tv3.same gD.1
    have e9 := gD.2 (L9, .lst (ndsL a1 a2 a3 a4 a5 l2 a6 a7 a8 a9 a10)) (by simp)
    refine ⟨_, rfl, _, rfl, _, rfl, L9, _, rfl, .inl (.of e9), b, g, 13, rfl, hBD, by decide, by decide, fun H4 r4 bl4 hB4' r40 r41 => ?_⟩
    have g4 := gD.bl hBD bl4 (by simp)
    have tv5 := tv4.bl bl4
    have hT4 := hTD.bl hBD bl4
    obtain ⟨j4, rfl⟩ : ∃ j : Nat, r4 = j := ⟨r4.toNat, by omega⟩
    have hj4 : j4 < (ndsL a1 a2 a3 a4 a5 l2 a6 a7 a8 a9 a10).length := by show j4 < 13; omega
    have ej4 := List.getElem?_eq_getElem hj4
    obtain ⟨tn, bn⟩ := odd_all (b := b) (h := h) (lev := lev) hB4'.nk h8 hlev (by rw [nN_len, ben_len]) g4 _ (List.getElem_mem hj4)
    generalize (ndsL a1 a2 a3 a4 a5 l2 a6 a7 a8 a9 a10)[j4] = nv at *
    refine ⟨L9, _, _, nv, rfl, rfl, .of (g4 (L9, .lst (ndsL a1 a2 a3 a4 a5 l2 a6 a7 a8 a9 a10)) (by simp)), atI_nat ej4, ?_⟩
    have gD1 := gD.1
    clear gA gB gC gD
    refine ⟨4, rfl, by decide, by decide, ?_⟩
    refine for_it (walk_range (lo := 0)) (fun i σ G => ∃ y9 y3 y7, σ = [some (.ref b), some (.ref x), some (.ref p), y3, some v, some (.int (h : Nat)), some (.int (lev : Nat)), y7, some nv, y9] ∧ Same H4 G) ⟨_, _, _, rfl, .refl _⟩ (fun i σ G _ _ => trivial) ?_ ?_
    · rintro i y σ G G' hi ⟨y9, y3, y7, rfl, sG⟩ ⟨rfl, rfl⟩
      refine ⟨_, rfl, _, rfl, _, rfl, b, x, h, ls, ns, v, i, by show [V.int (0 + (i : Nat)), V.ref x, v] = _; rw [Int.zero_add], hT4.same sG, d, tv5.same sG, .inl ⟨by show i ≤ 3; have : i < 4 := hi; omega, .inl bv, fun G2 t s2 ht => ?_⟩⟩
      refine ⟨by show 2 ≤ sizeLine; decide, fun t2 nt2 => ⟨dSb "leaf" false, dSb "leaf" false, dpSb (same_upd nt2 _ _ ht), dpSb upd_same, shaped_sb _ _ (by decide +kernel), shaped_sb _ _ (by decide +kernel), _, rfl, ?_⟩⟩
      rw [eqv_sb]
      exact iteF ⟨_, _, _, rfl, sG.trans (s2.trans (same_upd nt2))⟩
    · rintro σ G ⟨y9, y3, y7, rfl, sG⟩
      refine ⟨_, rfl, _, rfl, b, x, h, ls, ns, nv, 4, rfl, hT4.same sG, d, tn.same sG, .inr ⟨.inl rfl, by rw [nodeB_bl tn (.same sG)]; exact bn, fun G2 t s2 ht => ?_⟩⟩
      refine ⟨by show 2 ≤ sizeLine; decide, fun t2 nt2 => ⟨dSb "node" true, dSb "node" true, dpSb (same_upd nt2 _ _ ht), dpSb upd_same, shaped_sb _ _ (by decide +kernel), shaped_sb _ _ (by decide +kernel), ?_⟩⟩
      have s3 := sG.trans (s2.trans (same_upd (o := HO.tup [.str "node", .bl true]) nt2))
      rw [eqv_sb]
      refine ⟨_, rfl, iteT ⟨_, rfl, _, rfl, b, x, h, ls, ns, nv, 5, rfl, hT4.same s3, d, tn.same s3, .inr ⟨.inr rfl, by rw [nodeB_bl tn (.same s3)]; exact bn, fun G3 t3 s4 ht3 => ?_⟩⟩⟩
      refine ⟨by show 2 ≤ sizeLine; decide, fun t4 nt4 => ⟨dSb "node" true, dSb "node" true, dpSb (same_upd nt4 _ _ ht3), dpSb upd_same, shaped_sb _ _ (by decide +kernel), shaped_sb _ _ (by decide +kernel), ?_⟩⟩
      rw [eqv_sb]
      exact q _ ((((BL.same u).trans bl13).trans ((BL.same gD1).trans bl4)).trans (.same (s3.trans (s4.trans (same_upd nt4))))) ((hB4'.same s3).same (s4.trans (same_upd nt4)))
end
end L2.My
end
section
set_option Elab.async false
set_option linter.all false
set_option maxRecDepth 100000
set_option maxHeartbeats 4000000
/-! The law. -/
namespace L2.My
open PySem PySem.Spec PyProof.Rows
abbrev sLaw : Stmt := top 45
def spLaw (K : PySem.W.Frag) : Sp := fun vs H Q _ => ∃ (a : Addr) (ns : List Int), vs = [.ref a] ∧ SqL K H a (ns.map V.int) ∧ ∀ H', Q (.bl true) H'
/-! ### what is shown -/
def dPrs (l : List (Nat × Nat)) : PyData := .tuple (l.map dPr)
theorem dpPrs {K : PySem.W.Frag} {H : Hp} {a : Addr} {l : List (Nat × Nat)} (h : PrsAt H a l) : Dp K H (.ref a) (dPrs l) := by
  obtain ⟨vs, h1, h2⟩ := h
  refine .tup (.of h1) (dp_map h2 fun v p r => ?_)
  obtain ⟨c, rfl, e⟩ := r
  exact dpPr e
theorem dpPrA {K : PySem.W.Frag} {H : Hp} {v : V} {p : Nat × Nat} (h : PrAt H v p) : Dp K H v (dPr p) := by
  obtain ⟨a, rfl, e⟩ := h
  exact dpPr e
/-- small pairs -/
def Sml (l : List (Nat × Nat)) : Prop := ∀ p ∈ l, p.1 ≤ 1000 ∧ p.2 ≤ 1000
theorem nice_pr {p : Nat × Nat} (h : p.1 ≤ 1000 ∧ p.2 ≤ 1000) : Nice (dPr p) := by
  have e : (1000 : Nat) ≤ 10 ^ 40 := by decide
  exact .tup (.cons (.int (by omega)) (.cons (.int (by omega)) .nil))
theorem nice_prs {l : List (Nat × Nat)} (h : Sml l) : Nice (dPrs l) := .tup (.map fun p hp => nice_pr (h p hp))
theorem dep_pr (p : Nat × Nat) : PyData.depth (dPr p) ≤ 4 := by
  simp only [dPr, PyData.depth, PyData.depthAll]; omega
theorem dep_prs (l : List (Nat × Nat)) : PyData.depth (dPrs l) ≤ 6 := dep_tup dep_pr l
theorem bulk_prs (l : List (Nat × Nat)) : (dPrs l).bulk ≤ 3 * l.length := by
  unfold dPrs
  rw [PyData.bulk]
  exact bulk_map fun p _ => by simp only [dPr, PyData.bulk, PyData.bulkAll]; omega
theorem sml_path {h j : Nat} (hh : h ≤ 8) (hj : j < 256) : Sml (pathL h j) := fun p hp => by
  obtain ⟨k, hk, rfl⟩ := List.mem_map.mp hp
  rw [List.mem_range] at hk
  have := div_small (k + 1) hj
  exact ⟨by show k + 1 ≤ 1000; omega, by show j / 2 ^ (k + 1) ≤ 1000; omega⟩
theorem sml_bes {h j : Nat} (hh : h ≤ 8) (hj : j < 256) : Sml (besL h j) := fun p hp => by
  obtain ⟨k, hk, rfl⟩ := List.mem_map.mp hp
  rw [List.mem_range] at hk
  have h1 := div_small k hj
  have h2 := xor_one h1
  refine ⟨by show k ≤ 1000; omega, ?_⟩
  show (j / 2 ^ k) ^^^ 1 ≤ 1000
  rw [h2]
  split <;> omega
theorem sml_met {i j : Nat} (hi : i < 256) (hj : j < 256) : metL i j ≤ 1000 ∧ i / 2 ^ metL i j ≤ 1000 := by
  refine ⟨?_, by have := div_small (metL i j) hi; omega⟩
  rw [metL_nat]
  have h1 : i ^^^ j < 2 ^ 8 := Nat.xor_lt_two_pow hi hj
  have h2 := Nat.log2_le_self (i ^^^ j)
  split <;> omega
theorem sml_res {h : Nat} {ls : List Lf} {ns : List Nd} (d : DrT h ls ns) {lev at' : Nat} (hl : lev ≤ h) (ha : at' < 2 ^ (h - lev)) : Sml (resL ls ns lev at') := fun p hp => by
  obtain ⟨h1, h2⟩ := resL_ok d hl ha p hp
  have h8 := d.h8
  exact ⟨by omega, at_small h8 h2⟩
theorem res_len {h : Nat} {ls : List Lf} {ns : List Nd} (d : DrT h ls ns) {lev at' : Nat} (hl : lev ≤ h) : (resL ls ns lev at').length ≤ 65792 := by
  have h8 := d.h8
  have h1 := resL_len d lev at'
  have h2 := Nat.mul_le_mul_left 257 (pow8 (show lev ≤ 8 by omega))
  omega
/-- two rows of pairs in a list -/
def dWays (l m : List (Nat × Nat)) : PyData := .list [dPrs l, dPrs m]
theorem dpWays {K : PySem.W.Frag} {H : Hp} {a p q : Addr} {l m : List (Nat × Nat)} (h : H a = some (.lst [.ref p, .ref q])) (h1 : PrsAt H p l) (h2 : PrsAt H q m) : Dp K H (.ref a) (dWays l m) := .lst (.of h) (.cons (dpPrs h1) (.cons (dpPrs h2) .nil))
theorem nice_ways {l m : List (Nat × Nat)} (h1 : Sml l) (h2 : Sml m) : Nice (dWays l m) := .lst (.cons (nice_prs h1) (.cons (nice_prs h2) .nil))
theorem dep_ways (l m : List (Nat × Nat)) : PyData.depth (dWays l m) ≤ 40 := by
  have h1 := dep_prs l
  have h2 := dep_prs m
  simp only [dWays, PyData.depth, PyData.depthAll]
  omega
theorem bulk_ways {l m : List (Nat × Nat)} (h1 : l.length ≤ 8) (h2 : m.length ≤ 8) : (dWays l m).bulk ≤ 306100 := by
  have e1 := bulk_prs l
  have e2 := bulk_prs m
  simp only [dWays, PyData.bulk, PyData.bulkAll]
  omega
theorem nice_nats {l : List Nat} (h : ∀ j ∈ l, j < 256) : Nice (dNats l) := .tup (.map fun j hj => .int (by
  have := h j hj
  have e : (1000 : Nat) ≤ 10 ^ 40 := by decide
  omega))
theorem hold_lt {h : Nat} {ls : List Lf} {ns : List Nd} (d : DrT h ls ns) {lev at' j : Nat} (hj : j ∈ holdL ls ns lev at') : j < 256 := by
  have l256 := d.l256
  have hm : j ∈ memL ls := by
    unfold holdL at hj
    split at hj
    · cases hj
    · exact (List.mem_filter.mp hj).1
  unfold memL at hm
  rw [List.mem_filter, List.mem_range] at hm
  omega
theorem hold_len {h : Nat} {ls : List Lf} {ns : List Nd} (d : DrT h ls ns) {lev at' : Nat} : (holdL ls ns lev at').length ≤ 256 := by
  have l256 := d.l256
  have hm : (memL ls).length ≤ 256 := Nat.le_trans (List.length_filter_le _ _) (by rw [List.length_range]; exact l256)
  unfold holdL
  split
  · exact Nat.zero_le _
  · exact Nat.le_trans (List.length_filter_le _ _) hm
theorem dep_nats2 (l : List Nat) : PyData.depth (dNats l) ≤ 40 := by
  have := dep_nats l
  simp only [dNats, PyData.depth]
  omega
theorem bulk_nats {l : List Nat} (h : l.length ≤ 256) : (dNats l).bulk ≤ 306100 := by
  unfold dNats
  rw [PyData.bulk]
  have := bulk_map (f := fun (j : Nat) => PyData.int j) (c := 1) (xs := l) fun j _ => by simp [PyData.bulk]
  omega
theorem dpNatsT {K : PySem.W.Frag} {H : Hp} {a : Addr} {l : List Nat} (h : H a = some (.tup (nN l))) : Dp K H (.ref a) (dNats l) := .tup (.of h) (dpNats l)
/-- a tree's parts in a list -/
def dPts (h : Nat) (ls : List Lf) (ns : List Nd) : PyData := .list [.int (h : Nat), dLvs ls, dNds ns]
theorem dpPts {K : PySem.W.Frag} {H : Hp} {a la na : Addr} {h : Nat} {ls : List Lf} {ns : List Nd} (e : H a = some (.lst [.int (h : Nat), .ref la, .ref na])) (h1 : LvsAt H la ls) (h2 : NdsAt H na ns) : Dp K H (.ref a) (dPts h ls ns) := .lst (.of e) (.cons (.int _) (.cons (dpLvs h1) (.cons (dpNds h2) .nil)))
theorem pts_ok {h : Nat} {ls : List Lf} {ns : List Nd} (g : GTr h ls ns) : Nice (dPts h ls ns) ∧ (dPts h ls ns).depth ≤ 40 ∧ (dPts h ls ns).bulk ≤ 306100 := by
  refine ⟨.lst (.cons (nice_h g.h8) (.cons (nice_lvs g.gl) (.cons (nice_nds g.gn) .nil))), ?_, ?_⟩
  · have h1 := dep_lvs ls
    have h2 := dep_nds ns
    simp only [dPts, PyData.depth, PyData.depthAll]
    omega
  · have h1 := short_tree (ds := []) (ls := ls) (ns := ns) (fun _ _ _ => trivial) g.gl g.gn g.ll g.nl
    simp only [dPts, PyData.bulk, PyData.bulkAll] at h1 ⊢
    omega
theorem below_yes {n j : Nat} (h : j < n) : belowV (n : Int) (.int (j : Nat)) = true := by
  show decide (0 ≤ ((j : Nat) : Int) ∧ ((j : Nat) : Int) < (n : Int)) = true
  exact decide_eq_true (by omega)
section
variable {P : Program} {w : World} {K : PySem.W.Frag} {mg : Str → Option Value} {base : Heap} {C B NL NN : Addr}
abbrev nLaw : List Str := ["script", "box", "turn", "parts", "tree", "many", "leaf", "k", "other", "ways", "due", "found", "level", "node"]
theorem scLaw : FnScope nLaw ["script"] (defScope sLaw) := ⟨rfl, rfl, rfl, by decide +kernel, rfl, by decide +kernel, by decide +kernel⟩
/-- what stands through a turn -/
structure Std (C : Addr) (G : Hp) (b g p x : Addr) (h : Nat) (ls : List Lf) (ns : List Nd) : Prop where
  B : BoxAt G b g
  T : TrIn C G x h ls ns
  P : PtIn G p h ls ns
  d : DrT h ls ns
theorem Std.same {G G' : Hp} {b g p x : Addr} {h : Nat} {ls : List Lf} {ns : List Nd} (i : Std C G b g p x h ls ns) (s : Same G G') : Std C G' b g p x h ls ns := ⟨i.B.same s, i.T.same s, i.P.same s, i.d⟩
theorem Std.bl {G G' : Hp} {b g p x : Addr} {h : Nat} {ls : List Lf} {ns : List Nd} (i : Std C G b g p x h ls ns) (s : BL [b] G G') (hB : BoxAt G' b g) : Std C G' b g p x h ls ns := ⟨hB, i.T.bl i.B s, i.P.bl i.B s, i.d⟩
theorem ok_law {f : Addr} {fd : FuncData} {k : Nat} (F : Fun K "law" "law" sLaw f fd) (T : Tx mg) (c : TrC K C) (hmin : mg "min" = none) (cX : Cal P w K mg base (k + 1) "_law_box" ["script"] (spBox K)) (cR : Cal P w K mg base (k + 5) "_law_tree" ["box", "most"] spTr) (cD : Cal P w K mg base (k + 3) "_law_draw" ["box", "menu"] spDraw)
    (R : MkT P w K mg base (k + 5) C B) (cM : Cal P w K mg base (k + 1) "members" ["tree"] (spMems C)) (cW : Cal P w K mg base (k + 1) "_law_ways" ["height", "leaf"] spWays) (cA : CalX P w K mg base (k + 4) "path" ["tree", "leaf"] (spWay C NL pathL)) (cE : CalX P w K mg base (k + 4) "beside" ["tree", "leaf"] (spWay C NL besL))
    (cY : Cal P w K mg base (k + 1) "_law_met" ["one", "other"] spMet) (cT : Cal P w K mg base (k + 5) "_law_told" ["way", "tree", "thing"] (spTold C)) (cG : CalX P w K mg base (k + 4) "meeting" ["tree", "one", "other"] (spMeet C NL)) (cB : Cal P w K mg base (k + 1) "_law_beneath" ["node"] spBen)
    (cU : Cal P w K mg base (k + 9) "_law_due_resolution" ["parts", "node"] (spDr 8)) (cS : CalX P w K mg base (k + 3) "resolution" ["tree", "node"] (spRes C NN)) (cH : CalX P w K mg base (k + 3) "holders" ["tree", "node"] (spHold C NN)) (cI : Cal P w K mg base (k + 2) "_law_due_holders" ["parts", "node"] spDh)
    (cP : Cal P w K mg base (k + 4) "_law_parted" ["tree", "parts", "node"] (spPar C)) (cF : Cal P w K mg base (k + 6) "_law_refused" ["box", "tree", "parts"] (spRfs C)) : FnOkG P w K mg base (k + 10) f fd ["script"] (spLaw K) := by
  refine fun_okG F scLaw (fun vs H Q E h => ?_) (fun cdv A outer s H vs Q E hr hgd h => ?_)
  · obtain ⟨a, ns, rfl, _⟩ := h
    rfl
  · obtain ⟨a, ns, rfl, hS, q⟩ := h
    have hrp : CallR (cxOf CX0 P w K mg base nLaw "law" (defScope sLaw) f cdv A outer s H E).nox (.builtin "repr") (rRepr K) := call_repr hgd hr.units
    refine ⟨_, (pss_cons (ps_set (i := 1) scLaw.nd rfl (Or.inr rfl) (pe_c cX hr (by omega) (by rfl) (pa_cons (pv 0) pa_nil))) (pss_cons (ps_for PassesOwn.never rfl (pi_range1 (by rfl) T.range_ (pa_cons pe_int pa_nil)) (pg_name (i := 2) scLaw.nd rfl (Or.inl rfl)) (pss_cons (ps_set (i := 3) scLaw.nd rfl (Or.inr rfl) (pe_c cR hr (by omega) (by rfl) (pa_cons (pv 1) (pa_cons (pe_ifExp (pt_cmpR op_eq (pe_c cD hr (by omega) (by rfl) (pa_cons (pv 1) (pa_cons pe_int pa_nil))) pe_int (nomark _)) pe_int pe_int) pa_nil)))) (pss_cons (ps_set (i := 4) scLaw.nd rfl (Or.inr rfl) (pe_make R.M R.F (hr.mono (by omega)) (by rfl) R.g R.b .nil pass_no (pa_cons (pe_ix ix_list (pv 3) pe_int (fun _ _ => rfl)) (pa_cons (pe_ix ix_list (pv 3) pe_int (fun _ _ => rfl)) (pa_cons (pe_ix ix_list (pv 3) pe_int (fun _ _ => rfl)) pa_nil))))) (pss_cons (ps_set (i := 5) scLaw.nd rfl (Or.inl rfl) (pe_callB call_len_seq (by rfl) T.len_ PySem.boot_len (pa_cons (pe_ix ix_list (pv 3) pe_int (fun _ _ => rfl)) pa_nil))) (pss_cons (ps_if (pt_cmpR (op_neD hr.units) (pe_c cM hr (by omega) (by rfl) (pa_cons (pv 4) pa_nil)) (pe_tupleOf (by rfl) T.tuple_ (pe_lc (own := [("leaf", 6)]) (g := gName 6) (te := tVar 6) (tt := tTest (tOp rNotN (tOp (rIxT K) (tOp (rIxL K) (tVar 3) (tC (.int 1))) (tVar 6)) (tC .non))) rfl scLaw.nd (pi_range1 (by rfl) T.range_ (pa_cons (pv 5) pa_nil)) (blkOk_by (N := nLaw) (sc := defScope sLaw) (by decide +kernel)) (fun _ _ _ _ _ => pg_name (i := 6) scLaw.nd rfl (Or.inl rfl)) (fun _ _ _ _ _ => (pts_one (pt_cmpR op_notN (pe_ix ix_tup (pe_ix ix_list (pv 3) pe_int (fun _ _ => rfl)) (pv 6) (fun _ _ => rfl)) pe_non (nomark _)))) (fun _ _ _ _ _ => (pv 6)))) (nomark _)) (pss_one (ps_ret pe_bl)) pss_nil) (pss_cons (ps_for PassesOwn.never rfl (pi_range1 (by rfl) T.range_ (pa_cons (pe_callB (call_min2 rfl) (by rfl) hmin (by decide +kernel) (pa_cons (pv 5) (pa_cons pe_int pa_nil))) pa_nil)) (pg_name (i := 7) scLaw.nd rfl (Or.inl rfl)) (pss_cons (ps_set (i := 6) scLaw.nd rfl (Or.inl rfl) (pe_ifExp (pt_cmpR op_lt (pv 5) pe_int (nomark _)) (pv 7) (pe_c cD hr (by omega) (by rfl) (pa_cons (pv 1) (pa_cons (pv 5) pa_nil))))) (pss_cons (ps_set (i := 8) scLaw.nd rfl (Or.inl rfl) (pe_c cD hr (by omega) (by rfl) (pa_cons (pv 1) (pa_cons (pv 5) pa_nil)))) (pss_cons (ps_set (i := 9) scLaw.nd rfl (Or.inl rfl) (pe_c cW hr (by omega) (by rfl) (pa_cons (pe_ix ix_list (pv 3) pe_int (fun _ _ => rfl)) (pa_cons (pv 6) pa_nil)))) (pss_cons (ps_if (pt_cmpR op_ne (pe_callB hrp (by rfl) T.repr_ (by decide +kernel) (pa_cons (pe_lst (pa_cons (pe_cx cA hr (by omega) (by rfl) pass_no (pa_cons (pv 4) (pa_cons (pv 6) pa_nil))) (pa_cons (pe_cx cE hr (by omega) (by rfl) pass_no (pa_cons (pv 4) (pa_cons (pv 6) pa_nil))) pa_nil))) pa_nil)) (pe_callB hrp (by rfl) T.repr_ (by decide +kernel) (pa_cons (pv 9) pa_nil)) (nomark _)) (pss_one (ps_ret pe_bl)) pss_nil) (pss_cons (ps_set (i := 10) scLaw.nd rfl (Or.inl rfl) (pe_ifExp (pt_cmpR op_eq (pv 6) (pv 8) (nomark _)) (pe_tup (pa_cons pe_str (pa_cons pe_bl pa_nil))) (pe_c cY hr (by omega) (by rfl) (pa_cons (pv 6) (pa_cons (pv 8) pa_nil))))) (pss_cons (ps_set (i := 11) scLaw.nd rfl (Or.inl rfl) (pe_ifExp (pt_and (pt_cmpR op_eq (pv 6) (pv 8) (nomark _)) (pw_and1 (pt_cmpR op_eq (pv 6) pe_int (nomark _)))) (pe_c cT hr (by omega) (by rfl) (pa_cons pe_int (pa_cons (pv 4) (pa_cons (pv 6) pa_nil)))) pe_non)) (pss_one (ps_if (pt_or (pt_and (pt_cmpR op_notN (pv 11) pe_non (nomark _)) (pw_and1 (pt_cmpR (op_neD hr.units) (pv 11) (pv 10) (nomark _)))) (pw_or1 (pt_and (pt_cmpR op_ne (pv 6) (pv 8) (nomark _)) (pw_and1 (pt_cmpR op_ne (pe_callB hrp (by rfl) T.repr_ (by decide +kernel) (pa_cons (pe_cx cG hr (by omega) (by rfl) pass_no (pa_cons (pv 4) (pa_cons (pv 6) (pa_cons (pv 8) pa_nil)))) pa_nil)) (pe_callB hrp (by rfl) T.repr_ (by decide +kernel) (pa_cons (pv 10) pa_nil)) (nomark _)))))) (pss_one (ps_ret pe_bl)) pss_nil))))))))) (pss_cons (ps_for PassesOwn.never rfl (pi_range1 (by rfl) T.range_ (pa_cons pe_int pa_nil)) (pg_name (i := 7) scLaw.nd rfl (Or.inl rfl)) (pss_cons (ps_set (i := 12) scLaw.nd rfl (Or.inl rfl) (pe_ifExp (pt_cmpR op_gt (pv 7) pe_int (nomark _)) (pe_c cD hr (by omega) (by rfl) (pa_cons (pv 1) (pa_cons (pe_op op_add (pe_ix ix_list (pv 3) pe_int (fun _ _ => rfl)) pe_int) pa_nil))) (pe_ix ix_list (pv 3) pe_int (fun _ _ => rfl)))) (pss_cons (ps_set (i := 13) scLaw.nd rfl (Or.inl rfl) (pe_tup (pa_cons (pv 12) (pa_cons (pe_c cD hr (by omega) (by rfl) (pa_cons (pv 1) (pa_cons (pe_callB call_len_seq (by rfl) T.len_ PySem.boot_len (pa_cons (pe_c cB hr (by omega) (by rfl) (pa_cons (pe_tup (pa_cons (pe_op op_sub (pe_ix ix_list (pv 3) pe_int (fun _ _ => rfl)) (pv 12)) (pa_cons pe_int pa_nil))) pa_nil)) pa_nil)) pa_nil))) pa_nil)))) (pss_cons (ps_set (i := 10) scLaw.nd rfl (Or.inl rfl) (pe_c cU hr (by omega) (by rfl) (pa_cons (pv 3) (pa_cons (pv 13) pa_nil)))) (pss_cons (ps_if (pt_or (pt_cmpR op_ne (pe_callB hrp (by rfl) T.repr_ (by decide +kernel) (pa_cons (pe_cx cS hr (by omega) (by rfl) pass_no (pa_cons (pv 4) (pa_cons (pv 13) pa_nil))) pa_nil)) (pe_callB hrp (by rfl) T.repr_ (by decide +kernel) (pa_cons (pv 10) pa_nil)) (nomark _)) (pw_or1 (pt_cmpR op_ne (pe_callB hrp (by rfl) T.repr_ (by decide +kernel) (pa_cons (pe_cx cH hr (by omega) (by rfl) pass_no (pa_cons (pv 4) (pa_cons (pv 13) pa_nil))) pa_nil)) (pe_callB hrp (by rfl) T.repr_ (by decide +kernel) (pa_cons (pe_c cI hr (by omega) (by rfl) (pa_cons (pv 3) (pa_cons (pv 13) pa_nil))) pa_nil)) (nomark _)))) (pss_one (ps_ret pe_bl)) pss_nil) (pss_one (ps_if (pt_not (pt_val (pe_c cP hr (by omega) (by rfl) (pa_cons (pv 4) (pa_cons (pv 3) (pa_cons (pv 13) pa_nil)))))) (pss_one (ps_ret pe_bl)) pss_nil))))))) (pss_cons (ps_if (pt_not (pt_val (pe_callB (cr_all rfl) (by rfl) T.all_ (by decide +kernel) (pa_cons (pe_lc (own := [("k", 7)]) (g := gName 7) (te := tCall (spRfs C) [] E0 (tCons (tVar 1) (tCons (tVar 4) (tCons (tVar 3) tNil)))) rfl scLaw.nd (pi_range1 (by rfl) T.range_ (pa_cons pe_int pa_nil)) (blkOk_by (N := nLaw) (sc := defScope sLaw) (by decide +kernel)) (fun _ _ _ _ _ => pg_name (i := 7) scLaw.nd rfl (Or.inl rfl)) (fun _ _ _ _ _ => pts_nil) (fun _ _ _ _ _ => (pe_c cF hr (by omega) (by rfl) (pa_cons (pv 1) (pa_cons (pv 4) (pa_cons (pv 3) pa_nil)))))) pa_nil)))) (pss_one (ps_ret pe_bl)) pss_nil) (pss_one (ps_if (pt_cmpR op_ne (pe_callB hrp (by rfl) T.repr_ (by decide +kernel) (pa_cons (pe_lst (pa_cons (pe_fld (pv 4) rfl) (pa_cons (pe_fld (pv 4) rfl) (pa_cons (pe_fld (pv 4) rfl) pa_nil)))) pa_nil)) (pe_callB hrp (by rfl) T.repr_ (by decide +kernel) (pa_cons (pv 3) pa_nil)) (nomark _)) (pss_one (ps_ret pe_bl)) pss_nil)))))))))) (pss_one (ps_ret pe_bl)))), ?_⟩
    refine ⟨_, rfl, a, ns, rfl, hS, fun H1 b g s1 hB1 => ?_⟩
    refine ⟨2, rfl, by decide, by decide, ?_⟩
    refine for_it (walk_range (lo := 0)) (fun i σ G => ∃ (y2 y3 y4 y5 y6 y7 y8 y9 y10 y11 y12 y13 : Option V), σ = [some (.ref a), some (.ref b), y2, y3, y4, y5, y6, y7, y8, y9, y10, y11, y12, y13] ∧ BoxAt G b g) ⟨_, _, _, _, _, _, _, _, _, _, _, _, rfl, hB1⟩ (fun i σ G _ _ => trivial) ?_ ?_
    · rintro i y σ G G' hi ⟨y2, y3, y4, y5, y6, y7, y8, y9, y10, y11, y12, y13, rfl, hB⟩ ⟨rfl, rfl⟩
      dsimp only [gName]
      refine seq_use (fun σ G3 => ∃ (p la na : Addr) (h : Nat) (ls : List Lf) (ns : List Nd), σ = [some (.ref a), some (.ref b), some (.int (0 + (i : Nat))), some (.ref p), y4, y5, y6, y7, y8, y9, y10, y11, y12, y13] ∧ BoxAt G3 b g ∧ p ≠ b ∧ G3 p = some (.lst [.int (h : Nat), .ref la, .ref na]) ∧ LvsAt G3 la ls ∧ NdsAt G3 na ns ∧ DrT h ls ns) ?_ (fun hrest => ?_)
      · rintro σ G3 ⟨p, la, na, h, ls, ns, rfl, hB3, npb, hp, hL, hN, d⟩
        have hmx : ((h : Nat) : Int) ≤ maxI := by
          have e : (8 : Int) ≤ maxI := by decide
          have := d.h8
          omega
        have th : Thg b G3 (.int (h : Nat)) := .int _ hmx
        have tl := thg_lvs hB3.nt hL d.gl (Nat.le_trans d.l256 (by decide))
        have tn := thg_nds hB3.nt hN d
        have ok := drawn_ok hL hN d
        refine seq_set (mk_use (b := b) (i := 3) (σ := [some (.ref a), some (.ref b), some (.int (0 + (i : Nat))), some (.ref p), y4, y5, y6, y7, y8, y9, y10, y11, y12, y13]) rfl hp th tl tn ok fun G4 x dx s4 nx hx => ?_)
        have I4 : Std C G4 b g p x h ls ns := ⟨hB3.same s4, ⟨dx, la, na, hx, hL.tk (.same s4), hN.tk (.same s4)⟩, ⟨la, na, s4 _ _ hp, hL.tk (.same s4), hN.tk (.same s4)⟩, d⟩
        clear th tl tn ok hx nx s4 hp hL hN hB3 npb
        have h8 := d.h8
        have l256 := d.l256
        have ll := d.ll
        obtain ⟨la, na, hp, ⟨lv, hla, hlp⟩, hN⟩ := id I4.P
        have hlv : lv.length = ls.length := Paired.len hlp
        refine ⟨_, rfl, p, _, _, .ref la, rfl, rfl, .of hp, atI_nat (j := 1) rfl, la, _, rfl, .inr (.of hla), ?_⟩
        rw [hlv]
        dsimp only [gName]
        refine seq_use (t := tIfS _ _ _) (fun σ G => ∃ (y6 y7 y8 y9 y10 y11 y12 y13 : Option V), σ = [some (.ref a), some (.ref b), some (.int (0 + (i : Nat))), some (.ref p), some (.ref x), some (.int (ls.length : Nat)), y6, y7, y8, y9, y10, y11, y12, y13] ∧ Std C G b g p x h ls ns) ?_ (fun hrest => ?_)
        · rintro σ G5 ⟨y6, y7, y8, y9, y10, y11, y12, y13, rfl, I5⟩
          refine seq_use (t := tFor _ _ _) (fun σ G => ∃ (y6 y7 y8 y9 y10 y11 y12 y13 : Option V), σ = [some (.ref a), some (.ref b), some (.int (0 + (i : Nat))), some (.ref p), some (.ref x), some (.int (ls.length : Nat)), y6, y7, y8, y9, y10, y11, y12, y13] ∧ Std C G b g p x h ls ns) ?_ (fun hrest => ?_)
          · rintro σ G6 ⟨y6, y7, y8, y9, y10, y11, y12, y13, rfl, I6⟩
            refine seq_use (t := tFor _ _ _) (fun σ G => ∃ (y6 y7 y8 y9 y10 y11 y12 y13 : Option V), σ = [some (.ref a), some (.ref b), some (.int (0 + (i : Nat))), some (.ref p), some (.ref x), some (.int (ls.length : Nat)), y6, y7, y8, y9, y10, y11, y12, y13] ∧ Std C G b g p x h ls ns) ?_ (fun hrest => ?_)
            · rintro σ G7 ⟨y6, y7, y8, y9, y10, y11, y12, y13, rfl, I7⟩
              -- the refusals, the parts as they were
              refine seq_use (t := tIfS _ _ _) (fun σ G => ∃ (y6 y7 y8 y9 y10 y11 y12 y13 : Option V), σ = [some (.ref a), some (.ref b), some (.int (0 + (i : Nat))), some (.ref p), some (.ref x), some (.int (ls.length : Nat)), y6, y7, y8, y9, y10, y11, y12, y13] ∧ Std C G b g p x h ls ns) ?_ (fun hrest => ?_)
              · rintro σ G8 ⟨y6, y7, y8, y9, y10, y11, y12, y13, rfl, I8⟩
                obtain ⟨dx, la1, na1, hx, hL1, hN1⟩ := I8.T
                obtain ⟨la2, na2, hp2, hL2, hN2⟩ := I8.P
                obtain ⟨z1, z2, z3⟩ := pts_ok (DrT.gtr (b := b) (la := la) (na := na) (H := G8) d)
                refine ⟨_, rfl, x, C, dx, _, _, rfl, hx, c.cls, c.na _ (by simp), rfl, _, rfl, x, C, dx, _, _, rfl, hx, c.cls, c.na _ (by simp), rfl, _, rfl, x, C, dx, _, _, rfl, hx, c.cls, c.na _ (by simp), rfl, by show 3 ≤ sizeLine; decide, fun u nu => ?_⟩
                have su := same_upd (o := HO.lst [.int (h : Nat), .ref la1, .ref na1]) nu
                refine ⟨u, dPts h ls ns, rfl, dpPts upd_same (hL1.tk (.same su)) (hN1.tk (.same su)), z1, z2, z3, _, rfl, p, dPts h ls ns, rfl, dpPts (su _ _ hp2) (hL2.tk (.same su)) (hN2.tk (.same su)), z1, z2, z3, rfl, _, rfl, ?_⟩
                rw [decide_eq_true rfl]
                exact iteF ⟨_, _, _, _, _, _, _, _, _, _, _, _, rfl, I8.B.same su⟩
              · refine ⟨3, rfl, by decide, by decide, fun D nD => ?_⟩
                refine lcB (walk_range (lo := 0)) (fun j acc => acc = (List.replicate j true).map V.bl) (by decide) nD I7.B (fun _ _ _ => trivial) rfl ?_ ?_
                · rintro j v G8 G9 Q' N' acc hj bl8 hB8 rfl ⟨rfl, rfl⟩ hq _
                  have I8 := I7.bl bl8 hB8
                  refine ⟨rfl, ?_⟩
                  refine ⟨_, rfl, _, rfl, _, rfl, b, g, x, p, h, ls, ns, rfl, hB8, I8.T, I8.P, d, fun G10 bl10 hB10 => hq _ G10 bl10 hB10 ?_⟩
                  rw [List.replicate_succ', List.map_append]
                  rfl
                · rintro G8 acc bl8 hB8 hD8 rfl _
                  refine ⟨D, List.replicate 3 true, rfl, SqL.of hD8, ?_⟩
                  exact ⟨_, rfl, iteF (hrest _ _ ⟨_, _, _, _, _, _, _, _, rfl, I7.bl bl8 hB8⟩)⟩
            · -- the nodes
              refine ⟨14, rfl, by decide, by decide, ?_⟩
              refine for_it (walk_range (lo := 0)) (fun j σ G => ∃ (y6 y7 y8 y9 y10 y11 y12 y13 : Option V), σ = [some (.ref a), some (.ref b), some (.int (0 + (i : Nat))), some (.ref p), some (.ref x), some (.int (ls.length : Nat)), y6, y7, y8, y9, y10, y11, y12, y13] ∧ Std C G b g p x h ls ns) ⟨_, _, _, _, _, _, _, _, rfl, I6⟩ (fun _ _ _ _ _ => trivial) ?_ ?_
              · rintro j y σ G7 G7' hj ⟨y6, y7, y8, y9, y10, y11, y12, y13, rfl, I7⟩ ⟨rfl, rfl⟩
                dsimp only [gName]
                refine seq_use (t := tAsg _ _) (fun σ G => ∃ (y7 : Option V) (lev : Nat), σ = [some (.ref a), some (.ref b), some (.int (0 + (i : Nat))), some (.ref p), some (.ref x), some (.int (ls.length : Nat)), y6, y7, y8, y9, y10, y11, some (.int (lev : Nat)), y13] ∧ lev ≤ h ∧ Std C G b g p x h ls ns) ?_ (fun hrest => ?_)
                · rintro σ G8 ⟨y7, lev, rfl, hlev, I8⟩
                  refine seq_use (t := tAsg _ _) (fun σ G => ∃ (pn : Addr) (at' : Nat), σ = [some (.ref a), some (.ref b), some (.int (0 + (i : Nat))), some (.ref p), some (.ref x), some (.int (ls.length : Nat)), y6, y7, y8, y9, y10, y11, some (.int (lev : Nat)), some (.ref pn)] ∧ at' < 2 ^ (h - lev) ∧ G pn = some (.tup [.int (lev : Nat), .int (at' : Nat)]) ∧ Std C G b g p x h ls ns) ?_ (fun hrest => ?_)
                  · rintro σ G9 ⟨pn, at', rfl, ha, hpn, I9⟩
                    obtain ⟨u1, u2, u3⟩ := node_yes hpn hlev ha
                    have ha8 := at_small h8 ha
                    refine ⟨_, rfl, _, rfl, p, pn, h, ls, ns, lev, at', rfl, I9.P, d, hpn, by omega, hlev, ha, fun G10 t10 s10 ht10 => ?_⟩
                    dsimp only [gName]
                    have I10 := I9.same s10
                    have hpn10 := s10 _ _ hpn
                    have n1 := nice_prs (sml_res d hlev ha)
                    have n2 := Nat.le_trans (dep_prs (resL ls ns lev at')) (show 6 ≤ 40 by decide)
                    have n3 : (dPrs (resL ls ns lev at')).bulk ≤ 306100 := by
                      have e1 := bulk_prs (resL ls ns lev at')
                      have e2 := res_len d (at' := at') hlev
                      omega
                    have m1 := nice_nats fun j hj => hold_lt d (lev := lev) (at' := at') (j := j) hj
                    have m2 := dep_nats2 (holdL ls ns lev at')
                    have m3 := bulk_nats (hold_len d (lev := lev) (at' := at'))
                    refine ⟨_, rfl, _, rfl, b, x, h, ls, ns, .ref pn, rfl, I10.T, d, thg_pair I10.B.nt hpn10 (by omega) ha8, fun _ G11 t11 s11 ht11 => ?_, fun e => by rw [nodeB_bl (thg_pair I9.B.nt hpn (by omega) ha8) (.same s10), u1] at e; cases e⟩
                    obtain ⟨v1, v2, v3⟩ := node_yes hpn10 hlev ha
                    rw [v2, v3] at ht11
                    have I11 := I10.same s11
                    have hpn11 := s11 _ _ hpn10
                    refine ⟨t11, dPrs (resL ls ns lev at'), rfl, dpPrs ht11, n1, n2, n3, _, rfl, t10, dPrs (resL ls ns lev at'), rfl, dpPrs (ht10.tk (.same s11)), n1, n2, n3, rfl, _, rfl, ?_⟩
                    rw [decide_eq_true rfl]
                    refine iteF ⟨_, rfl, _, rfl, b, x, h, ls, ns, .ref pn, rfl, I11.T, d, thg_pair I11.B.nt hpn11 (by omega) ha8, fun _ G12 t12 s12 ht12 => ?_, fun e => by rw [(node_yes hpn11 hlev ha).1] at e; cases e⟩
                    obtain ⟨w1, w2, w3⟩ := node_yes hpn11 hlev ha
                    rw [w2, w3] at ht12
                    have I12 := I11.same s12
                    have hpn12 := s12 _ _ hpn11
                    refine ⟨t12, dNats (holdL ls ns lev at'), rfl, dpNatsT ht12, m1, m2, m3, _, rfl, _, rfl, p, pn, h, ls, ns, lev, at', rfl, I12.P, d, hpn12, hlev, ha, fun G13 t13 s13 ht13 => ?_⟩
                    have I13 := I12.same s13
                    refine ⟨t13, dNats (holdL ls ns lev at'), rfl, dpNatsT ht13, m1, m2, m3, rfl, _, rfl, ?_⟩
                    rw [decide_eq_true rfl]
                    refine iteF ⟨_, rfl, _, rfl, _, rfl, b, g, x, p, pn, h, ls, ns, lev, at', rfl, I13.B, I13.T, I13.P, d, s13 _ _ hpn12, hlev, ha, fun G14 s14 => ?_⟩
                    exact ⟨_, rfl, iteF ⟨_, _, _, _, _, _, _, _, rfl, I13.same s14⟩⟩
                  · obtain ⟨la8, na8, hp8, _⟩ := I8.P
                    refine ⟨_, rfl, _, rfl, _, rfl, p, _, _, .int (h : Nat), rfl, rfl, .of hp8, atI_nat (j := 0) rfl, _, rfl, _, _, rfl, rfl, by show 2 ≤ sizeLine; decide, fun a0 m0 => ?_⟩
                    refine ⟨a0, h - lev, 0, rfl, by rw [upd_same, Int.natCast_sub hlev]; rfl, by omega, by omega, fun G9 lb sb nlb hlb => ⟨lb, _, rfl, .inl (.of hlb), ?_⟩⟩
                    have I9 := (I8.same (same_upd m0)).same sb
                    rw [nN_len, ben_len]
                    have h2p := two_pos (h - lev)
                    have h2b := pow8 (show h - lev ≤ 8 by omega)
                    refine ⟨b, g, ((2 ^ (h - lev) : Nat) : Int), rfl, I9.B, by omega, Nat.lt_of_le_of_lt (show ((2 ^ (h - lev) : Nat) : Int).natAbs ≤ 256 by omega) (by decide), fun G10 r bl10 hB10 r0 r1 => ⟨by show 2 ≤ sizeLine; decide, fun pn npn => ?_⟩⟩
                    obtain ⟨at', rfl⟩ : ∃ j : Nat, r = j := ⟨r.toNat, by omega⟩
                    exact hrest _ _ ⟨pn, at', rfl, by omega, upd_same, (I9.bl bl10 hB10).same (same_upd npn)⟩
                · obtain ⟨la8, na8, hp8, _⟩ := I7.P
                  refine ⟨_, rfl, _, _, rfl, rfl, _, rfl, ?_⟩
                  refine ite2 (fun _ => ?_) (fun _ => ?_)
                  · refine ⟨_, rfl, _, rfl, p, _, _, .int (h : Nat), rfl, rfl, .of hp8, atI_nat (j := 0) rfl, _, _, rfl, rfl, b, g, (h : Int) + 1, rfl, I7.B, by omega, Nat.lt_of_le_of_lt (show ((h : Int) + 1).natAbs ≤ 9 by omega) (by decide), fun G8 r bl8 hB8 r0 r1 => ?_⟩
                    obtain ⟨lev, rfl⟩ : ∃ j : Nat, r = j := ⟨r.toNat, by omega⟩
                    exact hrest _ _ ⟨_, lev, rfl, by omega, I7.bl bl8 hB8⟩
                  · exact ⟨_, rfl, p, _, _, .int (h : Nat), rfl, rfl, .of hp8, atI_nat (j := 0) rfl, hrest _ _ ⟨_, h, rfl, Nat.le_refl _, I7⟩⟩
              · rintro σ G7 ⟨y6, y7, y8, y9, y10, y11, y12, y13, rfl, I7⟩
                exact hrest _ _ ⟨_, _, _, _, _, _, _, _, rfl, I7⟩
          · -- the leaves
            refine ⟨_, rfl, _, _, rfl, _, rfl, by split <;> omega, by split <;> omega, ?_⟩
            refine for_it (walk_range (lo := 0)) (fun j σ G => ∃ (y6 y7 y8 y9 y10 y11 y12 y13 : Option V), σ = [some (.ref a), some (.ref b), some (.int (0 + (i : Nat))), some (.ref p), some (.ref x), some (.int (ls.length : Nat)), y6, y7, y8, y9, y10, y11, y12, y13] ∧ Std C G b g p x h ls ns) ⟨_, _, _, _, _, _, _, _, rfl, I5⟩ (fun _ _ _ _ _ => trivial) ?_ ?_
            · rintro j y σ G6 G6' hj ⟨y6, y7, y8, y9, y10, y11, y12, y13, rfl, I6⟩ ⟨rfl, rfl⟩
              have hjl : j < ls.length := by
                revert hj
                split <;> omega
              dsimp only [gName]
              have hpos : (0 : Int) < ((ls.length : Nat) : Int) := by omega
              have hsm : ((ls.length : Nat) : Int).natAbs < 2 ^ 200 := Nat.lt_of_le_of_lt (show ((ls.length : Nat) : Int).natAbs ≤ 256 by omega) (by decide)
              refine seq_use (t := tAsg _ _) (fun σ G => ∃ (y7 : Option V) (l : Nat), σ = [some (.ref a), some (.ref b), some (.int (0 + (i : Nat))), some (.ref p), some (.ref x), some (.int (ls.length : Nat)), some (.int (l : Nat)), y7, y8, y9, y10, y11, y12, y13] ∧ l < ls.length ∧ Std C G b g p x h ls ns) ?_ (fun hrest => ?_)
              · rintro σ G7 ⟨y7, l, rfl, hl, I7⟩
                refine ⟨_, rfl, _, rfl, b, g, ((ls.length : Nat) : Int), rfl, I7.B, hpos, hsm, fun G8 r bl8 hB8 r0 r1 => ?_⟩
                dsimp only [gName]
                obtain ⟨o, rfl⟩ : ∃ j : Nat, r = j := ⟨r.toNat, by omega⟩
                have ho : o < ls.length := by omega
                have I8 := I7.bl bl8 hB8
                obtain ⟨la8, na8, hp8, _⟩ := I8.P
                refine ⟨_, rfl, p, _, _, .int (h : Nat), rfl, rfl, .of hp8, atI_nat (j := 0) rfl, _, rfl, h, l, rfl, h8, by omega, fun G9 t9 s9 ht9 => ?_⟩
                dsimp only [gName]
                obtain ⟨pa, pb, hw, hpa, hpb⟩ := ht9
                have I9 := I8.same s9
                have p1 := sml_path h8 (show l < 256 by omega)
                have p2 := sml_bes h8 (show l < 256 by omega)
                have n1 := nice_ways p1 p2
                have n2 := dep_ways (pathL h l) (besL h l)
                have n3 : (dWays (pathL h l) (besL h l)).bulk ≤ 306100 := bulk_ways (by unfold pathL; rw [List.length_map, List.length_range]; exact h8) (by unfold besL; rw [List.length_map, List.length_range]; exact h8)
                have tl : ∀ G, Thg b G (.int (l : Nat)) := fun G => .int _ (Int.le_trans (show ((l : Nat) : Int) ≤ 256 by omega) (by decide))
                have to : ∀ G, Thg b G (.int (o : Nat)) := fun G => .int _ (Int.le_trans (show ((o : Nat) : Int) ≤ 256 by omega) (by decide))
                refine ⟨_, rfl, _, rfl, b, x, h, ls, ns, .int (l : Nat), rfl, I9.T, d, tl _, fun _ GA ta sa hta => ?_, fun e => by rw [below_yes hl] at e; cases e⟩
                have IA := I9.same sa
                refine ⟨_, rfl, _, rfl, b, x, h, ls, ns, .int (l : Nat), rfl, IA.T, d, tl _, fun _ GB tb sb htb => ?_, fun e => by rw [below_yes hl] at e; cases e⟩
                have IB := IA.same sb
                refine ⟨by show 2 ≤ sizeLine; decide, fun u nu => ?_⟩
                have su := same_upd (o := HO.lst [.ref ta, .ref tb]) nu
                have hu : (upd GB u (.lst [.ref ta, .ref tb])) u = some (.lst [.ref ta, .ref tb]) := upd_same
                have IC := IB.same su
                have sall := (sa.trans sb).trans su
                refine ⟨u, dWays (pathL h l) (besL h l), rfl, dpWays hu (hta.tk (.same (sb.trans su))) (htb.tk (.same su)), n1, n2, n3, _, rfl, t9, dWays (pathL h l) (besL h l), rfl, dpWays (sall _ _ hw) (hpa.tk (.same sall)) (hpb.tk (.same sall)), n1, n2, n3, rfl, _, rfl, ?_⟩
                rw [decide_eq_true rfl]
                refine iteF ?_
                clear hu su hw hpa hpb hta htb n1 n2 n3 p1 p2 sall
                generalize upd GB u (.lst [.ref ta, .ref tb]) = GC at *
                refine ⟨_, rfl, _, rfl, rfl, _, rfl, ?_⟩
                have elo : decide (V.int (l : Nat) = V.int (o : Nat)) = decide (l = o) := by
                  rw [dec_int, Bool.eq_iff_iff, beq_iff_eq, decide_eq_true_iff]
                  omega
                rw [elo]
                by_cases hlo : l = o
                · subst hlo
                  rw [decide_eq_true rfl]
                  refine iteT ⟨by show 2 ≤ sizeLine; decide, fun td ntd => ?_⟩
                  have sd := same_upd (o := HO.tup [.str "leaf", .bl false]) ntd
                  have hd : (upd GC td (.tup [.str "leaf", .bl false])) td = some (.tup [.str "leaf", .bl false]) := upd_same
                  generalize upd GC td (.tup [.str "leaf", .bl false]) = GD at *
                  have ID := IC.same sd
                  dsimp only [gName]
                  refine ⟨_, rfl, _, rfl, rfl, _, rfl, ?_⟩
                  rw [decide_eq_true rfl]
                  refine iteT ⟨_, rfl, rfl, _, rfl, ?_⟩
                  by_cases hl0 : l = 0
                  · subst hl0
                    rw [decide_eq_true (show V.int ((0 : Nat) : Int) = V.int 0 from rfl)]
                    refine iteT ⟨_, rfl, _, rfl, b, x, h, ls, ns, .int 0, 2, rfl, ID.T, d, tl _, .inl ⟨by decide, .inr ⟨rfl, rfl⟩, fun GE te se hte => ?_⟩⟩
                    have IE := ID.same se
                    dsimp only [gName]
                    refine ⟨_, rfl, rfl, _, rfl, ?_⟩
                    refine iteT ⟨_, rfl, _, rfl, dSb "leaf" false, dSb "leaf" false, dpSb hte, dpSb (se _ _ hd), shaped_sb _ _ (by decide +kernel), shaped_sb _ _ (by decide +kernel), _, rfl, ?_⟩
                    rw [eqv_sb]
                    refine iteF ⟨_, rfl, _, rfl, rfl, _, rfl, ?_⟩
                    rw [decide_eq_true rfl]
                    exact iteF (iteF ⟨_, _, _, _, _, _, _, _, rfl, IE⟩)
                  · rw [decide_eq_false (show ¬ V.int ((l : Nat) : Int) = V.int 0 from fun e => hl0 (by have := V.int.inj e; omega))]
                    refine iteF ?_
                    dsimp only [tC, gName]
                    refine ⟨_, rfl, rfl, _, rfl, ?_⟩
                    refine iteF (iteF ⟨_, rfl, _, rfl, rfl, _, rfl, ?_⟩)
                    rw [decide_eq_true rfl]
                    exact iteF (iteF ⟨_, _, _, _, _, _, _, _, rfl, ID⟩)
                · rw [decide_eq_false hlo]
                  refine iteF ⟨_, rfl, _, rfl, l, o, rfl, by omega, by omega, fun GD td sd htd => ?_⟩
                  have ID := IC.same sd
                  dsimp only [gName]
                  refine ⟨_, rfl, _, rfl, rfl, _, rfl, ?_⟩
                  rw [elo, decide_eq_false hlo]
                  refine iteF (iteF ?_)
                  dsimp only [tC, gName]
                  refine ⟨_, rfl, rfl, _, rfl, ?_⟩
                  refine iteF (iteF ⟨_, rfl, _, rfl, rfl, _, rfl, ?_⟩)
                  rw [elo, decide_eq_false hlo]
                  refine iteT ⟨_, rfl, _, rfl, _, rfl, b, x, h, ls, ns, .int (l : Nat), .int (o : Nat), rfl, ID.T, d, tl _, to _, fun _ _ _ GE te se hte => ?_, fun e => ?_⟩
                  · have IE := ID.same se
                    have z1 := nice_pr (p := (metL l o, l / 2 ^ metL l o)) (sml_met (show l < 256 by omega) (show o < 256 by omega))
                    have z2 := Nat.le_trans (dep_pr (metL l o, l / 2 ^ metL l o)) (show 4 ≤ 40 by decide)
                    have z3 : (dPr (metL l o, l / 2 ^ metL l o)).bulk ≤ 306100 := by simp only [dPr, PyData.bulk, PyData.bulkAll]; omega
                    refine ⟨te, dPr (metL l o, l / 2 ^ metL l o), rfl, dpPrA hte, z1, z2, z3, _, rfl, td, dPr (metL l o, l / 2 ^ metL l o), rfl, dpPrA (htd.tk (.same se)), z1, z2, z3, rfl, _, rfl, ?_⟩
                    rw [decide_eq_true rfl]
                    exact iteF ⟨_, _, _, _, _, _, _, _, rfl, IE⟩
                  · rcases e with e | e | e
                    · rw [below_yes hl] at e; cases e
                    · rw [below_yes ho] at e; cases e
                    · exact absurd e hlo
              · refine ⟨_, rfl, _, _, rfl, rfl, _, rfl, ?_⟩
                refine ite2 (fun _ => ?_) (fun _ => ?_)
                · refine ⟨_, rfl, hrest _ _ ⟨some (.int (j : Nat)), j, ?_, hjl, I6⟩⟩
                  rw [show (V.int (0 + (j : Nat)) : V) = .int (j : Nat) by rw [Int.zero_add]]
                  rfl
                · refine ⟨_, rfl, _, rfl, b, g, ((ls.length : Nat) : Int), rfl, I6.B, hpos, hsm, fun G8 r bl8 hB8 r0 r1 => ?_⟩
                  obtain ⟨l, rfl⟩ : ∃ j : Nat, r = j := ⟨r.toNat, by omega⟩
                  exact hrest _ _ ⟨_, l, rfl, by omega, I6.bl bl8 hB8⟩
            · rintro σ G6 ⟨y6, y7, y8, y9, y10, y11, y12, y13, rfl, I6⟩
              exact hrest _ _ ⟨_, _, _, _, _, _, _, _, rfl, I6⟩
        · -- the members
          refine ⟨_, rfl, x, h, ls, ns, rfl, I4.T, d, fun G t s1' ht => ?_⟩
          refine ⟨_, rfl, _, rfl, by omega, by omega, fun D nD => ?_⟩
          have hpG := s1' _ _ hp
          have hlaG := s1' _ _ hla
          refine lc_it (walk_range (lo := 0)) (fun j G2 => Same G G2 ∧ G2 D = some (.lst (nN ((List.range j).filter fun q => (ls.getD q none).isSome)))) ⟨same_upd nD, upd_same⟩ (fun _ _ _ _ => trivial) ?_ ?_
          · rintro j v G2 G3 hj ⟨sm, hD⟩ ⟨rfl, rfl⟩
            have hj2 : j < ls.length := by have := hj; omega
            obtain ⟨xv, hxv, hlf⟩ := Paired.at hlp (List.getElem?_eq_getElem hj2)
            have eg : ls.getD j none = ls[j] := by rw [List.getD_eq_getElem?_getD, List.getElem?_eq_getElem hj2]; rfl
            have ej0 : (V.int (0 + (j : Nat)) : V) = .int (j : Nat) := by rw [Int.zero_add]
            dsimp only
            rw [ej0]
            refine ⟨rfl, _, rfl, p, _, _, .ref la, rfl, rfl, .of (sm _ _ hpG), atI_nat (j := 1) rfl, _, rfl, la, lv, _, xv, rfl, rfl, .of (sm _ _ hlaG), atI_nat hxv, rfl, _, rfl, ?_⟩
            rw [nonN, lf_non hlf, List.range_succ, List.filter_append]
            cases h1 : ls[j].isSome with
            | false =>
              refine iteF ⟨sm, ?_⟩
              rw [List.filter_cons_of_neg (p := fun j => (ls.getD j none).isSome) (by rw [eg, h1]; exact Bool.false_ne_true), List.filter_nil, List.append_nil]
              exact hD
            | true =>
              refine iteT ⟨_, rfl, _, hD, ?_, same_put sm nD, ?_⟩
              · rw [nN_len]
                exact Nat.lt_of_le_of_lt (show ((List.range j).filter fun j => (ls.getD j none).isSome).length ≤ 256 from Nat.le_trans (List.length_filter_le _ _) (by rw [List.length_range]; omega)) (by decide)
              · rw [List.filter_cons_of_pos (p := fun j => (ls.getD j none).isSome) (by rw [eg]; exact h1), List.filter_nil, upd_same]
                unfold nN
                rw [List.map_append]
                rfl
          · rintro G2 ⟨sm, hD⟩
            have e : ((ls.length : Nat) : Int).toNat = ls.length := by omega
            rw [e] at hD
            refine .inl ⟨D, _, rfl, .of hD, fun u nu => ?_⟩
            have su := same_upd (o := HO.tup (nN (memL ls))) nu
            have ht2 := su _ _ (sm _ _ ht)
            have hu2 : (upd G2 u (.tup (nN (memL ls)))) u = some (.tup (nN (memL ls))) := upd_same
            have sA := s1'.trans (sm.trans su)
            have lt : ∀ j ∈ memL ls, j < 256 := fun j hj => by
              unfold memL at hj
              rw [List.mem_filter, List.mem_range] at hj
              omega
            refine ⟨dNats (memL ls), dNats (memL ls), dpNatsT ht2, dpNatsT hu2, shaped_natsT _, shaped_natsT _, _, rfl, ?_⟩
            rw [eqv_nats, decide_eq_true rfl]
            exact iteF (hrest _ _ ⟨_, _, _, _, _, _, _, _, rfl, I4.same sA⟩)
      · refine ⟨_, rfl, _, rfl, b, g, 30, rfl, hB, by decide, by decide, fun G2 r bl2 hB2 r0 r1 => ⟨rfl, _, rfl, ?_⟩⟩
        refine ite2 (fun _ => ?_) (fun _ => ?_)
        · exact ⟨b, g, 8, rfl, hB2, by decide, fun H' p la na h ls ns bl hB' np hp hL hN d => hrest _ _ ⟨p, la, na, h, ls, ns, rfl, hB', hB2.nb np, hp, hL, hN, d⟩⟩
        · exact ⟨b, g, 5, rfl, hB2, by decide, fun H' p la na h ls ns bl hB' np hp hL hN d => hrest _ _ ⟨p, la, na, h, ls, ns, rfl, hB', hB2.nb np, hp, hL, hN, d⟩⟩
    · rintro σ G ⟨y2, y3, y4, y5, y6, y7, y8, y9, y10, y11, y12, y13, rfl, hB⟩
      exact q G
end
end L2.My
end
section
set_option Elab.async false
set_option linter.all false
set_option maxRecDepth 100000
set_option maxHeartbeats 4000000
namespace L2.My
open PySem PySem.Spec PyProof.Rows
/-! The start of the head: __init__ of PostError does nothing. -/
abbrev sPeI : Stmt := inClass (top 1) 0
section
variable {P : Program} {w : World} {K : PySem.W.Frag} {mg : Str → Option Value} {base : Heap} {C : Addr}
theorem scPeI : FnScope ["self"] ["self"] (defScope sPeI) := ⟨rfl, rfl, rfl, by decide +kernel, rfl, by decide +kernel, by decide +kernel⟩
theorem ok_pe {f : Addr} {fd : FuncData} {k : Nat} (F : Fun K "__init__" "PostError.__init__" sPeI f fd) : FnOk P w K mg base CX0 (k + 1) f fd ["self"] spNo := by
  refine F.ok scPeI (fun vs H Q E h => ?_) (fun cdv A outer s H vs Q E hr h => ?_)
  · obtain ⟨x, rfl, _⟩ := h
    rfl
  · obtain ⟨x, rfl, q⟩ := h
    refine ⟨_, pss_one ps_pass, ?_⟩
    exact q
theorem ini0_of {f : Addr} {fd : FuncData} (F : Fun K "__init__" "PostError.__init__" sPeI f fd) (o : OexC K C) (h1 : PySem.W.findIn K (.ref C) "__init__" = some (some (.ref f))) (h2 : PySem.W.typeIn K (.ref f) = some (.type "function")) : Ini0 P w K mg base C :=
  ⟨o, f, fd, h1, h2, ok_pe F, F.binds (ps := ["self"]) fun _ _ _ _ _ _ us hl => match us, hl with | [_], _ => rfl⟩
end
end L2.My
end
section
set_option Elab.async false
set_option linter.all false
set_option maxRecDepth 100000
set_option maxHeartbeats 4000000
/-! A Hook of facts by names, of defs, and of one more Bool. -/
namespace L2.My
open PySem PySem.Spec PyProof.Rows He
abbrev AlY : Type := Al × Bool
def obsY (fa : List Fa) (fn : List FnD) (ex : PySem.W.Frag → Bool) (K : PySem.W.Frag) : AlY := (obsE fa fn K, ex K && fn.all fun d => PySem.W.keepIn K (.ref (fAd K d.at_)))
def valY (fn : List FnD) : AlY := (valE fn, true)
def obsYG (n : Nat) (fa : List Fa) (fn : List FnD) (ex : PySem.W.Frag → Bool) (g : Addr → Option Obj) : AlY := obsY fa fn ex (frG g (asD g n))
structure SaysY (fa : List Fa) (fn : List FnD) (ex : PySem.W.Frag → Bool) (K : PySem.W.Frag) : Prop where
  e : SaysE fa fn K
  more : ex K = true
  kp : ∀ d ∈ fn, PySem.W.keepIn K (.ref (fAd K d.at_)) = true
theorem saysY_of {fa : List Fa} {fn : List FnD} {ex : PySem.W.Frag → Bool} {K : PySem.W.Frag} (e : obsY fa fn ex K = valY fn) : SaysY fa fn ex K := by
  have e1 : obsE fa fn K = valE fn := congrArg (fun z : AlY => z.1) e
  have e2 : (ex K && fn.all fun d => PySem.W.keepIn K (.ref (fAd K d.at_))) = true := congrArg (fun z : AlY => z.2) e
  obtain ⟨h1, h2⟩ := ba e2
  exact ⟨e1, h1, fun d hd => List.all_eq_true.mp h2 d hd⟩
def hookY (n : Nat) (fa : List Fa) (fn : List FnD) (ex : PySem.W.Frag → Bool) : PySem.W.Hook where
  α := AlY
  obs := fun s => obsYG n fa fn ex s.heap.get?
  val := fun _ => valY fn
  says := fun _ h => ∃ K : PySem.W.Frag, K.In h ∧ SaysY fa fn ex K
  of := fun _ _ e => ⟨_, frG_in, saysY_of e⟩
  keeps := fun _ _ _ ⟨K, hK, c⟩ k => ⟨K, PySem.W.Frag.In.keeps hK k, c⟩
theorem obsYG_eq {n : Nat} {fa : List Fa} {fn : List FnD} {ex : PySem.W.Frag → Bool} {g : Addr → Option Obj} {s : Shared} (h : ∀ a, g a = s.heap.get? a) : obsYG n fa fn ex g = (hookY n fa fn ex).obs s := by
  have e : g = s.heap.get? := funext h
  rw [e] <;> rfl
section
variable {fa : List Fa} {fn : List FnD} {ex : PySem.W.Frag → Bool} {K : PySem.W.Frag}
theorem SaysY.fact (c : SaysY fa fn ex K) {f : Fa} (h : f ∈ fa) : f.ok K = true := by
  obtain ⟨i, hi, e⟩ := List.mem_iff_getElem.mp h
  exact c.e.fact i (f := f) (by rw [List.getElem?_eq_getElem hi, e])
/-- a def of the text, by its place in the list -/
theorem SaysY.fun_ (c : SaysY fa fn ex K) {d : FnD} {st : Stmt} (h : d ∈ fn) (hp : d.params = defArgs st) (hb : d.body = defBody st) (hs : d.scope = defScope st) : ∃ fd, Fun K d.name d.qual st (fAd K d.at_) fd := by
  obtain ⟨i, hi, e⟩ := List.mem_iff_getElem.mp h
  obtain ⟨oc, od, osl, kV, doc, pm, an, cdv, ct, lk, hc⟩ := c.e.def_ i (d := d) (by rw [List.getElem?_eq_getElem hi, e])
  rw [hp, hb, hs] at lk
  exact ⟨_, fun_mk lk hc (c.kp d h)⟩
end
/-! ### an own exception class, decided -/
def exB (K : PySem.W.Frag) (C : Addr) : Bool := match K.lookup C with
  | some ⟨.type "type", _, .cls cd, sl⟩ => (match cd.mro, sl.toList with
    | .ref C' :: bm, [_, _, _, _, some (.builtin n), _] => C' == C && n == "ValueError.__new__" && !cd.hasDel && PySem.HandSPX.refsVE bm && cd.hasDict
    | _, _ => false)
  | _ => false
theorem exB_ok {K : PySem.W.Frag} {C : Addr} (q : exB K C = true) : ∃ nm q N bs bm sn sub ab col dd k0 k1 k2 k3 k5, K.lookup C = some (excClassObj nm q C N bs bm true sn sub ab col dd k0 k1 k2 k3 k5 "ValueError.__new__") ∧ PySem.HandSPX.refsVE bm = true := by
  unfold exB at q
  split at q
  · rename_i dd cd sl ho
    split at q
    · rename_i C' bm k0 k1 k2 k3 n k5 hm hs
      simp only [Bool.and_eq_true, beq_iff_eq, Bool.not_eq_true'] at q
      obtain ⟨⟨⟨⟨rfl, rfl⟩, hdel⟩, hr⟩, hd⟩ := q
      obtain ⟨nm, bs, mro, ns, qn, hdct, sn, sub, ab, col, del⟩ := cd
      dsimp only at hm hdel hd
      subst hm hdel hd
      have hsl : sl = #[k0, k1, k2, k3, some (.builtin "ValueError.__new__"), k5] := by
        obtain ⟨l⟩ := sl
        simp only at hs
        rw [hs]
      subst hsl
      exact ⟨nm, qn, ns, bs, bm, sn, sub, ab, col, dd, k0, k1, k2, k3, k5, ho, hr⟩
    · cases q
  · cases q
def eqV (a b : Option Value) : Bool := decide (a = b)
theorem eqV_ok {a b : Option Value} (h : eqV a b = true) : a = b := of_decide_eq_true h
def eqB (a b : Option Bool) : Bool := decide (a = b)
theorem eqB_ok {a b : Option Bool} (h : eqB a b = true) : a = b := of_decide_eq_true h
def xcB (K : PySem.W.Frag) (C : Addr) : Bool := exB K C && (eqO (PySem.W.findIn K (.ref C) "__setattr__") (some (some (.builtin "object.__setattr__"))) && (eqB (PySem.W.subIn K (.ref C) (.type "BaseException")) (some true) && (eqV (PySem.W.typeIn K (.ref C)) (some (.type "type")) && (PySem.W.keepIn K (.ref C) &&
  (eqO (PySem.W.findIn K (.ref C) "__getattribute__") (some (some (.builtin "BaseException.__getattribute__"))) && (eqO (PySem.W.findIn K (.ref C) "__getattr__") (some none) && (eqO (PySem.W.findIn K (.ref C) "__class__") (some (some (.builtin "object.__class__"))) &&
  (eqO (PySem.W.specialIn K (.builtin "object.__class__") "__get__") (some (some (.builtin "getset_descriptor.__get__"))) && (eqB (PySem.W.takesIn K (.builtin "object.__class__")) (some true) && (eqB (PySem.W.mroIn K C (.type "object")) (some true) && PySem.W.hasDictIn K C))))))))))
theorem xcB_ok {K : PySem.W.Frag} {C : Addr} (q : xcB K C = true) : XC K C := by
  obtain ⟨h1, q⟩ := ba q
  obtain ⟨h2, q⟩ := ba q
  obtain ⟨h3, q⟩ := ba q
  obtain ⟨h4, q⟩ := ba q
  obtain ⟨h5, q⟩ := ba q
  obtain ⟨h6, q⟩ := ba q
  obtain ⟨h7, q⟩ := ba q
  obtain ⟨h8, q⟩ := ba q
  obtain ⟨h9, q⟩ := ba q
  obtain ⟨h10, q⟩ := ba q
  obtain ⟨h11, h12⟩ := ba q
  exact ⟨⟨exB_ok h1, eqO_ok h2, eqB_ok h3, eqV_ok h4, h5⟩, eqO_ok h6, eqO_ok h7, eqO_ok h8, eqO_ok h9, eqB_ok h10, eqB_ok h11, h12⟩
end L2.My
end
section
set_option Elab.async false
set_option linter.all false
set_option maxRecDepth 100000
set_option maxHeartbeats 4000000
namespace L2.My
open PySem PySem.Spec PyProof.Rows He
/-! The head of k09: what is looked at. -/
theorem fun_of {K : PySem.W.Frag} {x q : Str} {st : Stmt} {f : Addr} {fd : FuncData} (F : FunD K x q (defArgs st) (defBody st) (defScope st) [] [] f fd) : Fun K x q st f fd := by
  obtain ⟨oc, od, dV, kV, doc, pm, an, cdv, ct, osl, e, l, c, d, _⟩ := F.ex
  rcases d with ⟨_, rfl⟩ | ⟨h, _⟩
  · exact ⟨⟨oc, od, kV, doc, pm, an, cdv, ct, osl, e, l, c⟩, F.kp⟩
  · exact absurd rfl h
def eD (x : Str) (st : Stmt) : DefD := { at_ := (x, none), name := x, qual := x, params := defArgs st, body := defBody st, scope := defScope st }
def eM (C m q : Str) (st : Stmt) : DefD := { at_ := (C, some m), name := m, qual := q, params := defArgs st, body := defBody st, scope := defScope st }
def fnK : List DefD := [eD "is_below" sBelow, eD "is_word" sWord, eD "is_number" sNumb, eD "ascends" sAsc, eD "is_pair" sPair, eD "is_member" sMemb, eD "is_leaves" sLeav, eD "is_node" sNode, eD "is_kept_node" sKept, eD "is_nodes" sNods, eD "check_leaf" sChk, eD "path" sPath, eD "beside" sBes, eD "kept_nodes" sKn, eD "resolution" sRes, eD "members" sMems, eD "meeting" sMeet, eD "holders" sHold, eD "_law_mixed" sMixd, eD "_law_box" sBox, eD "_law_refill" sRefill, eD "_law_draw" sDraw, eD "_law_name" sName, eD "_law_lock" sLock, eD "_law_beneath" sBen, eD "_law_tree" sTr, eD "_law_ways" sWays, eD "_law_due_resolution" sDr, eD "_law_due_holders" sDh, eD "_law_met" sMet, eD "_law_parted" sPar, eD "_law_told" sTold, eD "_law_refused" sRfs, eD "law" sLaw,
  eM "BadTree" "__init__" "BadTree.__init__" sBad, eM "Tree" "__init__" "Tree.__init__" (mT 0), eM "PostError" "__init__" "PostError.__init__" sPeI]
def gloK : List Str := [("is_below" : Str), ("is_word" : Str), ("is_number" : Str), ("ascends" : Str), ("is_pair" : Str), ("is_member" : Str), ("is_leaves" : Str), ("is_node" : Str), ("is_kept_node" : Str), ("is_nodes" : Str), ("check_leaf" : Str), ("path" : Str), ("beside" : Str), ("kept_nodes" : Str), ("resolution" : Str), ("members" : Str), ("meeting" : Str), ("holders" : Str), ("_law_mixed" : Str), ("_law_box" : Str), ("_law_refill" : Str), ("_law_draw" : Str), ("_law_name" : Str), ("_law_lock" : Str), ("_law_beneath" : Str), ("_law_tree" : Str), ("_law_ways" : Str), ("_law_due_resolution" : Str), ("_law_due_holders" : Str), ("_law_met" : Str), ("_law_parted" : Str), ("_law_told" : Str), ("_law_refused" : Str), ("law" : Str), ("Tree" : Str), ("BadTree" : Str), ("PostError" : Str), ("NoLeaf" : Str), ("NoNode" : Str)]
def freeK : List Str := ["isinstance", "int", "bool", "str", "len", "all", "tuple", "list", "range", "reversed", "repr", "ValueError", "enumerate", "sorted", "min"]
def noaR : List Str := ["height", "leaves", "nodes"]
def restK : List Fa := [.int "MOST_LETTERS" 12, .int "MOST_HEIGHT" 8, .cls "Tree", .mkr "Tree"]
def faK : List Fa := gloK.map .glo ++ (freeK.map .free ++ (restK ++ noaR.map (.noat "Tree")))
def exK1 (K : PySem.W.Frag) : Bool := xcB K (ga K "BadTree") && (eqO (PySem.W.findIn K (.ref (ga K "BadTree")) "part") (some none) && (eqO (PySem.W.findIn K (.ref (ga K "BadTree")) "__init__") (some (some (.ref (ma K (ga K "BadTree") "__init__")))) && (eqV (PySem.W.typeIn K (.ref (ma K (ga K "BadTree") "__init__"))) (some (.type "function")) && (eqB (PySem.W.kitOne K (.ref (ga K "BadTree")) (.ref (ga K "PostError"))) (some true) && (eqB (PySem.W.kitOne K (.ref (ga K "BadTree")) (.type "ValueError")) (some true) && (eqB (PySem.W.exmOne K (.ref (ga K "BadTree")) (.ref (ga K "BadTree"))) (some true) && (xcB K (ga K "NoLeaf") && (xcB K (ga K "NoNode") && (eqO (PySem.W.findIn K (.ref (ga K "NoLeaf")) "__init__") (some (some (.ref (ma K (ga K "PostError") "__init__")))) && (eqO (PySem.W.findIn K (.ref (ga K "NoNode")) "__init__") (some (some (.ref (ma K (ga K "PostError") "__init__")))) && (eqV (PySem.W.typeIn K (.ref (ma K (ga K "PostError") "__init__"))) (some (.type "function")) && (eqB (PySem.W.exmOne K (.ref (ga K "NoLeaf")) (.ref (ga K "NoLeaf"))) (some true) && (eqB (PySem.W.exmOne K (.ref (ga K "NoNode")) (.ref (ga K "NoLeaf"))) (some false) && (eqB (PySem.W.exmOne K (.ref (ga K "NoNode")) (.ref (ga K "NoNode"))) (some true) && (eqB (PySem.W.kitOne K (.ref (ga K "NoLeaf")) (.ref (ga K "NoNode"))) (some false) && (eqB (PySem.W.kitOne K (.ref (ga K "NoNode")) (.ref (ga K "PostError"))) (some true)))))))))))))))))
def tsK : List Tab := []
def tfK : List Defn := []
abbrev RK : PySem.W.OpenRow := PySem.W.OpenLaw.row PySem.Challenge.rw_strangerspost_k09_whole_paths_and_resolu
abbrev hkK : PySem.W.Hook := hookX 6 faK fnK tsK tfK exK1
def obK (s : PySem.W.SharedT) : AlX := obsX 6 faK fnK tsK tfK exK1 (HandSHeadRun.getT s)
theorem obK_eq (s : PySem.W.SharedT) : obK s = hkK.obs s.abs := obsX_eq (HandSHeadRun.getT_eq s)
end L2.My
end
section
set_option Elab.async false
set_option linter.all false
set_option maxRecDepth 100000
set_option maxHeartbeats 0
namespace L2.My
open PySem PySem.Spec PyProof.Rows He
abbrev looA : List PySem.Str := ["PostError", "NoLeaf", "NoNode", "BadTree", "is_below", "MOST_LETTERS", "is_word", "is_number", "ascends", "MOST_HEIGHT", "is_pair", "is_member", "is_leaves", "is_node", "is_kept_node", "is_nodes", "Tree", "check_leaf", "path", "beside", "kept_nodes", "resolution", "members", "meeting", "holders"]
abbrev looB : List PySem.Str := ["_law_mixed", "_law_box", "_law_refill", "_law_draw", "_law_name", "_law_lock", "_law_beneath", "_law_tree", "_law_ways", "_law_due_resolution", "_law_due_holders", "_law_met", "_law_parted", "_law_told", "_law_refused"]
theorem lawAt : RK.prog.main.body.length = 46 := by kernel_rfl
theorem law45 : (HandSHeadRun.topDef RK.prog 45).name = ("law" : PySem.Str) := by kernel_rfl
theorem run (w : World) : HandSHeadRun.RunEq RK (PySem.W.view RK.prog [45]) hkK obK 12000 (looA ++ looB) w := by
  intro os
  kernel_rfl
end L2.My
end
section
set_option Elab.async false
set_option linter.all false
set_option maxRecDepth 100000
set_option maxHeartbeats 4000000
namespace L2.My
open PySem PySem.Spec PyProof.Rows He LamX
section
variable {P : Program} {w : World} {K : PySem.W.Frag} {mg : Str → Option Value} {h0 base : Heap}
abbrev SX (w : World) (h : Heap) (K : PySem.W.Frag) : Prop := SaysX faK fnK tsK tfK exK1 w h K
theorem defAt (c : SX w h0 K) (i : Nat) {x : Str} {st : Stmt} (h : fnK[i]? = some (eD x st) := by rfl) : ∃ fd, Fun K x x st (ga K x) fd := by
  obtain ⟨fd, F⟩ := c.t.d.def_ i (d := eD x st) h
  exact ⟨fd, fun_of F⟩
theorem mthAt (c : SX w h0 K) (i : Nat) {C m q : Str} {st : Stmt} (h : fnK[i]? = some (eM C m q st) := by rfl) : ∃ fd, Fun K m q st (ma K (ga K C) m) fd := by
  obtain ⟨fd, F⟩ := c.t.d.def_ i (d := eM C m q st) h
  exact ⟨fd, fun_of F⟩
theorem factM (c : SX w h0 K) {f : Fa} (h : f ∈ faK) : f.ok K = true := c.t.d.facts h
theorem gloM (X : K.In h0) (G : h0.Ns mainGlobals mg) (c : SX w h0 K) {x : Str} (h : x ∈ gloK := by decide +kernel) : mg x = some (.ref (ga K x)) := glo_ok X G (factM c (List.mem_append_left _ (List.mem_map_of_mem h)))
theorem freeM (X : K.In h0) (G : h0.Ns mainGlobals mg) (c : SX w h0 K) {x : Str} (h : x ∈ freeK := by decide +kernel) : mg x = none := free_ok X G (factM c (List.mem_append_right _ (List.mem_append_left _ (List.mem_map_of_mem h))))
theorem restM (c : SX w h0 K) (i : Nat) {f : Fa} (h : restK[i]? = some f := by rfl) : f.ok K = true := factM c (List.mem_append_right _ (List.mem_append_right _ (List.mem_append_left _ (List.mem_of_getElem? h))))
theorem trC (c : SX w h0 K) : TrC K (ga K "Tree") := ⟨cls_ok (restM c 2), fun f hf => noat_ok (factM c (List.mem_append_right _ (List.mem_append_right _ (List.mem_append_right _ (List.mem_map_of_mem (show f ∈ noaR from hf))))))⟩
theorem txt (X : K.In h0) (G : h0.Ns mainGlobals mg) (c : SX w h0 K) : Tx mg :=
  ⟨freeM X G c, freeM X G c, freeM X G c, freeM X G c, freeM X G c, freeM X G c, freeM X G c, freeM X G c, freeM X G c, freeM X G c, freeM X G c, int_ok X G (restM c 0), int_ok X G (restM c 1)⟩
structure MoreK (K : PySem.W.Frag) : Prop where
  x : XC K (ga K "BadTree")
  no : PySem.W.findIn K (.ref (ga K "BadTree")) "part" = some none
  i : PySem.W.findIn K (.ref (ga K "BadTree")) "__init__" = some (some (.ref (ma K (ga K "BadTree") "__init__")))
  t : PySem.W.typeIn K (.ref (ma K (ga K "BadTree") "__init__")) = some (.type "function")
  kP : PySem.W.kitOne K (.ref (ga K "BadTree")) (.ref (ga K "PostError")) = some true
  kV : PySem.W.kitOne K (.ref (ga K "BadTree")) (.type "ValueError") = some true
  te : PySem.W.exmOne K (.ref (ga K "BadTree")) (.ref (ga K "BadTree")) = some true
  xL : XC K (ga K "NoLeaf")
  xN : XC K (ga K "NoNode")
  iL : PySem.W.findIn K (.ref (ga K "NoLeaf")) "__init__" = some (some (.ref (ma K (ga K "PostError") "__init__")))
  iN : PySem.W.findIn K (.ref (ga K "NoNode")) "__init__" = some (some (.ref (ma K (ga K "PostError") "__init__")))
  tP : PySem.W.typeIn K (.ref (ma K (ga K "PostError") "__init__")) = some (.type "function")
  eLL : PySem.W.exmOne K (.ref (ga K "NoLeaf")) (.ref (ga K "NoLeaf")) = some true
  eNL : PySem.W.exmOne K (.ref (ga K "NoNode")) (.ref (ga K "NoLeaf")) = some false
  eNN : PySem.W.exmOne K (.ref (ga K "NoNode")) (.ref (ga K "NoNode")) = some true
  kLN : PySem.W.kitOne K (.ref (ga K "NoLeaf")) (.ref (ga K "NoNode")) = some false
  kNP : PySem.W.kitOne K (.ref (ga K "NoNode")) (.ref (ga K "PostError")) = some true
theorem moreK (c : SX w h0 K) : MoreK K := by
  have m := c.more
  unfold exK1 at m
  obtain ⟨m0, m⟩ := ba m
  obtain ⟨m1, m⟩ := ba m
  obtain ⟨m2, m⟩ := ba m
  obtain ⟨m3, m⟩ := ba m
  obtain ⟨m4, m⟩ := ba m
  obtain ⟨m5, m⟩ := ba m
  obtain ⟨m6, m⟩ := ba m
  obtain ⟨m7, m⟩ := ba m
  obtain ⟨m8, m⟩ := ba m
  obtain ⟨m9, m⟩ := ba m
  obtain ⟨m10, m⟩ := ba m
  obtain ⟨m11, m⟩ := ba m
  obtain ⟨m12, m⟩ := ba m
  obtain ⟨m13, m⟩ := ba m
  obtain ⟨m14, m⟩ := ba m
  obtain ⟨m15, m16⟩ := ba m
  exact ⟨xcB_ok m0, eqO_ok m1, eqO_ok m2, eqV_ok m3, eqB_ok m4, eqB_ok m5, eqB_ok m6, xcB_ok m7, xcB_ok m8, eqO_ok m9, eqO_ok m10, eqV_ok m11, eqB_ok m12, eqB_ok m13, eqB_ok m14, eqB_ok m15, eqB_ok m16⟩
def calAt {k : Nat} {x : Str} {ps : List Str} {sp : Sp} {fd : FuncData} {st : Stmt} (X : K.In h0) (G : h0.Ns mainGlobals mg) (c : SX w h0 K) (F : Fun K x x st (ga K x) fd) (H : FnOk P w K mg base CX0 k (ga K x) fd ps sp) (b : Binds K fd ps []) (h : x ∈ gloK := by decide +kernel) : Cal P w K mg base k x ps sp := ⟨ga K x, fd, H, F.kp, gloM X G c h, b⟩
def calxAt {k : Nat} {x : Str} {ps : List Str} {sp : Sp} {fd : FuncData} {st : Stmt} (X : K.In h0) (G : h0.Ns mainGlobals mg) (c : SX w h0 K) (F : Fun K x x st (ga K x) fd) (H : FnOk P w K mg base (CX P w) k (ga K x) fd ps sp) (b : Binds K fd ps []) (h : x ∈ gloK := by decide +kernel) : CalX P w K mg base k x ps sp := ⟨ga K x, fd, H, F.kp, gloM X G c h, b⟩
end
end L2.My
end
section
set_option Elab.async false
set_option linter.all false
set_option maxRecDepth 100000
set_option maxHeartbeats 4000000
namespace L2.My
open PySem PySem.Spec PyProof.Rows He LamX
section
variable {P : Program} {w : World} {K : PySem.W.Frag} {mg : Str → Option Value} {h0 : Heap}
theorem facts {f : Addr} (X : K.In h0) (G : h0.Ns mainGlobals mg) (hfa : mg ("law" : Str) = some (.ref f)) (c : SX w h0 K) :
    ∃ fd : FuncData, (∀ (s : Shared) (v : Value), BindsTo s fd ⟨[v], []⟩ [("script", v)]) ∧ ∀ base : Heap, K.In base → base.Ns mainGlobals mg → FnOkG P w K mg base 10 f fd ["script"] (spLaw K) := by
  have e := hfa.symm.trans (gloM X G c (x := "law"))
  cases e
  obtain ⟨fdLaw, FLaw⟩ := defAt c 33 (x := "law") (st := sLaw)
  refine ⟨fdLaw, fun s v => ?_, fun base _ _ => ?_⟩
  · obtain ⟨oc, od, kV, doc, pm, an, cdv, ct, osl, rfl, lk, hcd⟩ := FLaw.ex
    exact .of_eq rfl
  have T := txt X G c
  have tc := trC c
  have m := moreK c
  obtain ⟨fdBel, FBel⟩ := defAt c 0 (x := "is_below") (st := sBelow)
  obtain ⟨fdWor, FWor⟩ := defAt c 1 (x := "is_word") (st := sWord)
  obtain ⟨fdNub, FNub⟩ := defAt c 2 (x := "is_number") (st := sNumb)
  obtain ⟨fdAsc, FAsc⟩ := defAt c 3 (x := "ascends") (st := sAsc)
  obtain ⟨fdPai, FPai⟩ := defAt c 4 (x := "is_pair") (st := sPair)
  obtain ⟨fdMem, FMem⟩ := defAt c 5 (x := "is_member") (st := sMemb)
  obtain ⟨fdLea, FLea⟩ := defAt c 6 (x := "is_leaves") (st := sLeav)
  obtain ⟨fdNod, FNod⟩ := defAt c 7 (x := "is_node") (st := sNode)
  obtain ⟨fdKep, FKep⟩ := defAt c 8 (x := "is_kept_node") (st := sKept)
  obtain ⟨fdNds, FNds⟩ := defAt c 9 (x := "is_nodes") (st := sNods)
  obtain ⟨fdChk, FChk⟩ := defAt c 10 (x := "check_leaf") (st := sChk)
  obtain ⟨fdPth, FPth⟩ := defAt c 11 (x := "path") (st := sPath)
  obtain ⟨fdBes, FBes⟩ := defAt c 12 (x := "beside") (st := sBes)
  obtain ⟨fdKn, FKn⟩ := defAt c 13 (x := "kept_nodes") (st := sKn)
  obtain ⟨fdRes, FRes⟩ := defAt c 14 (x := "resolution") (st := sRes)
  obtain ⟨fdMms, FMms⟩ := defAt c 15 (x := "members") (st := sMems)
  obtain ⟨fdMee, FMee⟩ := defAt c 16 (x := "meeting") (st := sMeet)
  obtain ⟨fdHol, FHol⟩ := defAt c 17 (x := "holders") (st := sHold)
  obtain ⟨fdMix, FMix⟩ := defAt c 18 (x := "_law_mixed") (st := sMixd)
  obtain ⟨fdBox, FBox⟩ := defAt c 19 (x := "_law_box") (st := sBox)
  obtain ⟨fdRef, FRef⟩ := defAt c 20 (x := "_law_refill") (st := sRefill)
  obtain ⟨fdDra, FDra⟩ := defAt c 21 (x := "_law_draw") (st := sDraw)
  obtain ⟨fdNam, FNam⟩ := defAt c 22 (x := "_law_name") (st := sName)
  obtain ⟨fdLoc, FLoc⟩ := defAt c 23 (x := "_law_lock") (st := sLock)
  obtain ⟨fdBen, FBen⟩ := defAt c 24 (x := "_law_beneath") (st := sBen)
  obtain ⟨fdTre, FTre⟩ := defAt c 25 (x := "_law_tree") (st := sTr)
  obtain ⟨fdWay, FWay⟩ := defAt c 26 (x := "_law_ways") (st := sWays)
  obtain ⟨fdDr, FDr⟩ := defAt c 27 (x := "_law_due_resolution") (st := sDr)
  obtain ⟨fdDh, FDh⟩ := defAt c 28 (x := "_law_due_holders") (st := sDh)
  obtain ⟨fdMet, FMet⟩ := defAt c 29 (x := "_law_met") (st := sMet)
  obtain ⟨fdPar, FPar⟩ := defAt c 30 (x := "_law_parted") (st := sPar)
  obtain ⟨fdTol, FTol⟩ := defAt c 31 (x := "_law_told") (st := sTold)
  obtain ⟨fdRfs, FRfs⟩ := defAt c 32 (x := "_law_refused") (st := sRfs)
  obtain ⟨fdBI, FBI⟩ := mthAt c 34 (C := "BadTree") (m := "__init__") (q := "BadTree.__init__") (st := sBad)
  obtain ⟨fdRI, FRI⟩ := mthAt c 35 (C := "Tree") (m := "__init__") (q := "Tree.__init__") (st := mT 0)
  obtain ⟨fdPI, FPI⟩ := mthAt c 36 (C := "PostError") (m := "__init__") (q := "PostError.__init__") (st := sPeI)
  have bBel : Binds K fdBel ["bound", "thing"] [] := FBel.binds (ps := ["bound", "thing"]) fun _ _ _ _ _ _ us hl => match us, hl with | [_, _], _ => rfl
  have bWor : Binds K fdWor ["thing"] [] := FWor.binds (ps := ["thing"]) fun _ _ _ _ _ _ us hl => match us, hl with | [_], _ => rfl
  have bNub : Binds K fdNub ["thing"] [] := FNub.binds (ps := ["thing"]) fun _ _ _ _ _ _ us hl => match us, hl with | [_], _ => rfl
  have bAsc : Binds K fdAsc ["things"] [] := FAsc.binds (ps := ["things"]) fun _ _ _ _ _ _ us hl => match us, hl with | [_], _ => rfl
  have bPai : Binds K fdPai ["thing"] [] := FPai.binds (ps := ["thing"]) fun _ _ _ _ _ _ us hl => match us, hl with | [_], _ => rfl
  have bMem : Binds K fdMem ["thing"] [] := FMem.binds (ps := ["thing"]) fun _ _ _ _ _ _ us hl => match us, hl with | [_], _ => rfl
  have bLea : Binds K fdLea ["height", "thing"] [] := FLea.binds (ps := ["height", "thing"]) fun _ _ _ _ _ _ us hl => match us, hl with | [_, _], _ => rfl
  have bNod : Binds K fdNod ["height", "thing"] [] := FNod.binds (ps := ["height", "thing"]) fun _ _ _ _ _ _ us hl => match us, hl with | [_, _], _ => rfl
  have bKep : Binds K fdKep ["height", "leaves", "thing"] [] := FKep.binds (ps := ["height", "leaves", "thing"]) fun _ _ _ _ _ _ us hl => match us, hl with | [_, _, _], _ => rfl
  have bNds : Binds K fdNds ["height", "leaves", "thing"] [] := FNds.binds (ps := ["height", "leaves", "thing"]) fun _ _ _ _ _ _ us hl => match us, hl with | [_, _, _], _ => rfl
  have bChk : Binds K fdChk ["tree", "leaf"] [] := FChk.binds (ps := ["tree", "leaf"]) fun _ _ _ _ _ _ us hl => match us, hl with | [_, _], _ => rfl
  have bPth : Binds K fdPth ["tree", "leaf"] [] := FPth.binds (ps := ["tree", "leaf"]) fun _ _ _ _ _ _ us hl => match us, hl with | [_, _], _ => rfl
  have bBes : Binds K fdBes ["tree", "leaf"] [] := FBes.binds (ps := ["tree", "leaf"]) fun _ _ _ _ _ _ us hl => match us, hl with | [_, _], _ => rfl
  have bKn : Binds K fdKn ["tree"] [] := FKn.binds (ps := ["tree"]) fun _ _ _ _ _ _ us hl => match us, hl with | [_], _ => rfl
  have bRes : Binds K fdRes ["tree", "node"] [] := FRes.binds (ps := ["tree", "node"]) fun _ _ _ _ _ _ us hl => match us, hl with | [_, _], _ => rfl
  have bMms : Binds K fdMms ["tree"] [] := FMms.binds (ps := ["tree"]) fun _ _ _ _ _ _ us hl => match us, hl with | [_], _ => rfl
  have bMee : Binds K fdMee ["tree", "one", "other"] [] := FMee.binds (ps := ["tree", "one", "other"]) fun _ _ _ _ _ _ us hl => match us, hl with | [_, _, _], _ => rfl
  have bHol : Binds K fdHol ["tree", "node"] [] := FHol.binds (ps := ["tree", "node"]) fun _ _ _ _ _ _ us hl => match us, hl with | [_, _], _ => rfl
  have bMix : Binds K fdMix ["number", "place"] [] := FMix.binds (ps := ["number", "place"]) fun _ _ _ _ _ _ us hl => match us, hl with | [_, _], _ => rfl
  have bBox : Binds K fdBox ["script"] [] := FBox.binds (ps := ["script"]) fun _ _ _ _ _ _ us hl => match us, hl with | [_], _ => rfl
  have bRef : Binds K fdRef ["box"] [] := FRef.binds (ps := ["box"]) fun _ _ _ _ _ _ us hl => match us, hl with | [_], _ => rfl
  have bDra : Binds K fdDra ["box", "menu"] [] := FDra.binds (ps := ["box", "menu"]) fun _ _ _ _ _ _ us hl => match us, hl with | [_, _], _ => rfl
  have bNam : Binds K fdNam ["box"] [] := FNam.binds (ps := ["box"]) fun _ _ _ _ _ _ us hl => match us, hl with | [_], _ => rfl
  have bLoc : Binds K fdLoc ["box"] [] := FLoc.binds (ps := ["box"]) fun _ _ _ _ _ _ us hl => match us, hl with | [_], _ => rfl
  have bBen : Binds K fdBen ["node"] [] := FBen.binds (ps := ["node"]) fun _ _ _ _ _ _ us hl => match us, hl with | [_], _ => rfl
  have bTre : Binds K fdTre ["box", "most"] [] := FTre.binds (ps := ["box", "most"]) fun _ _ _ _ _ _ us hl => match us, hl with | [_, _], _ => rfl
  have bWay : Binds K fdWay ["height", "leaf"] [] := FWay.binds (ps := ["height", "leaf"]) fun _ _ _ _ _ _ us hl => match us, hl with | [_, _], _ => rfl
  have bDr : Binds K fdDr ["parts", "node"] [] := FDr.binds (ps := ["parts", "node"]) fun _ _ _ _ _ _ us hl => match us, hl with | [_, _], _ => rfl
  have bDh : Binds K fdDh ["parts", "node"] [] := FDh.binds (ps := ["parts", "node"]) fun _ _ _ _ _ _ us hl => match us, hl with | [_, _], _ => rfl
  have bMet : Binds K fdMet ["one", "other"] [] := FMet.binds (ps := ["one", "other"]) fun _ _ _ _ _ _ us hl => match us, hl with | [_, _], _ => rfl
  have bPar : Binds K fdPar ["tree", "parts", "node"] [] := FPar.binds (ps := ["tree", "parts", "node"]) fun _ _ _ _ _ _ us hl => match us, hl with | [_, _, _], _ => rfl
  have bTol : Binds K fdTol ["way", "tree", "thing"] [] := FTol.binds (ps := ["way", "tree", "thing"]) fun _ _ _ _ _ _ us hl => match us, hl with | [_, _, _], _ => rfl
  have bRfs : Binds K fdRfs ["box", "tree", "parts"] [] := FRfs.binds (ps := ["box", "tree", "parts"]) fun _ _ _ _ _ _ us hl => match us, hl with | [_, _, _], _ => rfl
  have bBI : Binds K fdBI ["self", "part"] [] := FBI.binds (ps := ["self", "part"]) fun _ _ _ _ _ _ us hl => match us, hl with | [_, _], _ => rfl
  have bRI : Binds K fdRI ["self", "height", "leaves", "nodes"] [] := FRI.binds (ps := ["self", "height", "leaves", "nodes"]) fun _ _ _ _ _ _ us hl => match us, hl with | [_, _, _, _], _ => rfl
  have bPI : Binds K fdPI ["self"] [] := FPI.binds (ps := ["self"]) fun _ _ _ _ _ _ us hl => match us, hl with | [_], _ => rfl
  have cB1 : Cal P w K mg base 1 "is_below" ["bound", "thing"] spBelow := calAt X G c FBel (ok_below (k := 0) FBel T) bBel
  have cB2 : Cal P w K mg base 2 "is_below" ["bound", "thing"] spBelow := calAt X G c FBel (ok_below (k := 1) FBel T) bBel
  have cB4 : Cal P w K mg base 4 "is_below" ["bound", "thing"] spBelow := calAt X G c FBel (ok_below (k := 3) FBel T) bBel
  have cW2 : Cal P w K mg base 2 "is_word" ["thing"] spWord := calAt X G c FWor (ok_word (k := 1) FWor T) bWor
  have cU2 : Cal P w K mg base 2 "is_number" ["thing"] spNumb := calAt X G c FNub (ok_numb (k := 1) FNub T) bNub
  have cA2 : Cal P w K mg base 2 "ascends" ["things"] spAsc := calAt X G c FAsc (ok_asc (k := 1) FAsc T) bAsc
  have cA3 : Cal P w K mg base 3 "ascends" ["things"] spAsc := calAt X G c FAsc (ok_asc (k := 2) FAsc T) bAsc
  have cP1 : Cal P w K mg base 1 "is_pair" ["thing"] spPair := calAt X G c FPai (ok_pair (k := 0) FPai T) bPai
  have cP2 : Cal P w K mg base 2 "is_pair" ["thing"] spPair := calAt X G c FPai (ok_pair (k := 1) FPai T) bPai
  have cM3 : Cal P w K mg base 3 "is_member" ["thing"] spMemb := calAt X G c FMem (ok_memb (k := 1) FMem T cP2 cW2 cU2) bMem
  have cL4 : Cal P w K mg base 4 "is_leaves" ["height", "thing"] spLeav := calAt X G c FLea (ok_leav (k := 1) FLea T cM3) bLea
  have cN2 : Cal P w K mg base 2 "is_node" ["height", "thing"] spNode := calAt X G c FNod (ok_node (k := 0) FNod T cP1 cB1) bNod
  have cK3 : Cal P w K mg base 3 "is_kept_node" ["height", "leaves", "thing"] spKept := calAt X G c FKep (ok_kept (k := 0) FKep T cN2 cU2 cB2 cA2) bKep
  have cS4 : Cal P w K mg base 4 "is_nodes" ["height", "leaves", "thing"] spNods := calAt X G c FNds (ok_nods (k := 0) FNds T cK3 cA3) bNds
  have N : BadC P w K mg base (ga K "BadTree") := ⟨m.x, m.no, _, fdBI, m.i, m.t, ok_bad FBI m.x.o m.no, bBI, gloM X G c, ga K "PostError", gloM X G c, freeM X G c, m.kP, m.kV, m.te⟩
  have R : MkT P w K mg base 5 (ga K "Tree") (ga K "BadTree") := ⟨_, fdRI, mkr_ok (restM c 3), ok_tree (k := 0) FRI T tc N cB4 cL4 cS4, gloM X G c, bRI⟩
  have nL : NoC P w K mg base "NoLeaf" (ga K "NoLeaf") := ⟨ini0_of FPI m.xL.o m.iL m.tP, gloM X G c⟩
  have nN : NoC P w K mg base "NoNode" (ga K "NoNode") := ⟨ini0_of FPI m.xN.o m.iN m.tP, gloM X G c⟩
  have M : ErC K mg (ga K "NoLeaf") (ga K "NoNode") (ga K "PostError") := ⟨gloM X G c, gloM X G c, gloM X G c, freeM X G c, m.eLL, m.eNL, m.eNN, m.kLN, m.kNP, m.xL.exc, m.xN.exc⟩
  have cCh3 : CalX P w K mg base 3 "check_leaf" ["tree", "leaf"] (spChk (ga K "Tree") (ga K "NoLeaf")) := calxAt X G c FChk (ok_chk (k := 0) FChk T tc nL cB2) bChk
  have cPt4 : CalX P w K mg base 4 "path" ["tree", "leaf"] (spWay (ga K "Tree") (ga K "NoLeaf") pathL) := calxAt X G c FPth (ok_path (k := 0) FPth T tc cCh3) bPth
  have cBs4 : CalX P w K mg base 4 "beside" ["tree", "leaf"] (spWay (ga K "Tree") (ga K "NoLeaf") besL) := calxAt X G c FBes (ok_bes (k := 0) FBes T tc cCh3) bBes
  have cMe4 : CalX P w K mg base 4 "meeting" ["tree", "one", "other"] (spMeet (ga K "Tree") (ga K "NoLeaf")) := calxAt X G c FMee (ok_meet (k := 0) FMee T nL cCh3) bMee
  have cMm1 : Cal P w K mg base 1 "members" ["tree"] (spMems (ga K "Tree")) := calAt X G c FMms (ok_mems (k := 0) FMms T tc (freeM X G c)) bMms
  have cMm2 : Cal P w K mg base 2 "members" ["tree"] (spMems (ga K "Tree")) := calAt X G c FMms (ok_mems (k := 1) FMms T tc (freeM X G c)) bMms
  have cKn2 : Cal P w K mg base 2 "kept_nodes" ["tree"] (spKn (ga K "Tree")) := calAt X G c FKn (ok_kn (k := 1) FKn T tc) bKn
  have cRs3 : CalX P w K mg base 3 "resolution" ["tree", "node"] (spRes (ga K "Tree") (ga K "NoNode")) := calxAt X G c FRes (ok_res (k := 0) FRes T tc nN cN2 cKn2) bRes
  have cHo3 : CalX P w K mg base 3 "holders" ["tree", "node"] (spHold (ga K "Tree") (ga K "NoNode")) := calxAt X G c FHol (ok_hold (k := 0) FHol T tc nN cN2 cKn2 cMm2) bHol
  have cX1 : Cal P w K mg base 1 "_law_mixed" ["number", "place"] spMixd := calAt X G c FMix (ok_mixd (k := 0) FMix T) bMix
  have cX2 : Cal P w K mg base 2 "_law_mixed" ["number", "place"] spMixd := calAt X G c FMix (ok_mixd (k := 1) FMix T) bMix
  have cX3 : Cal P w K mg base 3 "_law_mixed" ["number", "place"] spMixd := calAt X G c FMix (ok_mixd (k := 2) FMix T) bMix
  have cX4 : Cal P w K mg base 4 "_law_mixed" ["number", "place"] spMixd := calAt X G c FMix (ok_mixd (k := 3) FMix T) bMix
  have cBx1 : Cal P w K mg base 1 "_law_box" ["script"] (spBox K) := calAt X G c FBox (ok_box (k := 0) FBox T) bBox
  have cRf2 : Cal P w K mg base 2 "_law_refill" ["box"] spRefill := calAt X G c FRef (ok_refill (k := 0) FRef T cX1) bRef
  have cRf3 : Cal P w K mg base 3 "_law_refill" ["box"] spRefill := calAt X G c FRef (ok_refill (k := 1) FRef T cX2) bRef
  have cRf4 : Cal P w K mg base 4 "_law_refill" ["box"] spRefill := calAt X G c FRef (ok_refill (k := 2) FRef T cX3) bRef
  have cD3 : Cal P w K mg base 3 "_law_draw" ["box", "menu"] spDraw := calAt X G c FDra (ok_draw (k := 0) FDra T cX2 cRf2) bDra
  have cD4 : Cal P w K mg base 4 "_law_draw" ["box", "menu"] spDraw := calAt X G c FDra (ok_draw (k := 1) FDra T cX3 cRf3) bDra
  have cD5 : Cal P w K mg base 5 "_law_draw" ["box", "menu"] spDraw := calAt X G c FDra (ok_draw (k := 2) FDra T cX4 cRf4) bDra
  have cNm4 : Cal P w K mg base 4 "_law_name" ["box"] spName := calAt X G c FNam (ok_name (k := 0) FNam T cD3) bNam
  have cLo4 : Cal P w K mg base 4 "_law_lock" ["box"] spLock := calAt X G c FLoc (ok_lock (k := 0) FLoc T cD3) bLoc
  have cBn1 : Cal P w K mg base 1 "_law_beneath" ["node"] spBen := calAt X G c FBen (ok_ben (k := 0) FBen T) bBen
  have cBn3 : Cal P w K mg base 3 "_law_beneath" ["node"] spBen := calAt X G c FBen (ok_ben (k := 2) FBen T) bBen
  have cBn4 : Cal P w K mg base 4 "_law_beneath" ["node"] spBen := calAt X G c FBen (ok_ben (k := 3) FBen T) bBen
  have cBn5 : Cal P w K mg base 5 "_law_beneath" ["node"] spBen := calAt X G c FBen (ok_ben (k := 4) FBen T) bBen
  have cTr5 : Cal P w K mg base 5 "_law_tree" ["box", "most"] spTr := calAt X G c FTre (ok_ltree (k := 0) FTre T cD4 cBn4 cNm4 cLo4) bTre
  have cWy1 : Cal P w K mg base 1 "_law_ways" ["height", "leaf"] spWays := calAt X G c FWay (ok_ways (k := 0) FWay T) bWay
  have cMt1 : Cal P w K mg base 1 "_law_met" ["one", "other"] spMet := calAt X G c FMet (ok_met (k := 0) FMet T) bMet
  have cR1 : Cal P w K mg base 1 "_law_due_resolution" ["parts", "node"] (spDr 0) := calAt X G c FDr (ok_dr0 (k := 0) FDr T) bDr
  have cR2 : Cal P w K mg base 2 "_law_due_resolution" ["parts", "node"] (spDr 1) := calAt X G c FDr (ok_drS (k := 0) FDr T cR1) bDr
  have cR3 : Cal P w K mg base 3 "_law_due_resolution" ["parts", "node"] (spDr 2) := calAt X G c FDr (ok_drS (k := 1) FDr T cR2) bDr
  have cR4 : Cal P w K mg base 4 "_law_due_resolution" ["parts", "node"] (spDr 3) := calAt X G c FDr (ok_drS (k := 2) FDr T cR3) bDr
  have cR5 : Cal P w K mg base 5 "_law_due_resolution" ["parts", "node"] (spDr 4) := calAt X G c FDr (ok_drS (k := 3) FDr T cR4) bDr
  have cR6 : Cal P w K mg base 6 "_law_due_resolution" ["parts", "node"] (spDr 5) := calAt X G c FDr (ok_drS (k := 4) FDr T cR5) bDr
  have cR7 : Cal P w K mg base 7 "_law_due_resolution" ["parts", "node"] (spDr 6) := calAt X G c FDr (ok_drS (k := 5) FDr T cR6) bDr
  have cR8 : Cal P w K mg base 8 "_law_due_resolution" ["parts", "node"] (spDr 7) := calAt X G c FDr (ok_drS (k := 6) FDr T cR7) bDr
  have cR9 : Cal P w K mg base 9 "_law_due_resolution" ["parts", "node"] (spDr 8) := calAt X G c FDr (ok_drS (k := 7) FDr T cR8) bDr
  have cDh2 : Cal P w K mg base 2 "_law_due_holders" ["parts", "node"] spDh := calAt X G c FDh (ok_dh (k := 0) FDh T cBn1) bDh
  have cPa4 : Cal P w K mg base 4 "_law_parted" ["tree", "parts", "node"] (spPar (ga K "Tree")) := calAt X G c FPar (ok_par (k := 0) FPar T (freeM X G c) cRs3 cHo3 cBn3) bPar
  have cTo5 : Cal P w K mg base 5 "_law_told" ["way", "tree", "thing"] (spTold (ga K "Tree")) := calAt X G c FTol (ok_told (k := 0) FTol M cPt4 cBs4 cMe4 cRs3 cHo3) bTol
  have cFu6 : Cal P w K mg base 6 "_law_refused" ["box", "tree", "parts"] (spRfs (ga K "Tree")) := calAt X G c FRfs (ok_rfs (k := 0) FRfs T cD5 cBn5 cTo5) bRfs
  exact ok_law (k := 0) FLaw T tc (freeM X G c) cBx1 cTr5 cD3 R cMm1 cWy1 cPt4 cBs4 cMt1 cTo5 cMe4 cBn1 cR9 cRs3 cHo3 cDh2 cPa4 cFu6
end
end L2.My
end
set_option Elab.async false
set_option linter.all false
set_option maxRecDepth 100000
set_option maxHeartbeats 0
open PySem PySem.W PySem.Calls PyProof.Rows
theorem PySem.Challenge.cw_strangerspost_k09_whole_paths_and_resolu_holds : PySem.Challenge.rw_strangerspost_k09_whole_paths_and_resolu.Holds := by
  w_on; o_law
  refine HandSHeadRun.head_any (r := OpenLaw.row PySem.Challenge.rw_strangerspost_k09_whole_paths_and_resolu) (q := view (OpenLaw.row PySem.Challenge.rw_strangerspost_k09_whole_paths_and_resolu).prog [45]) (H := L2.My.hkK) (ob := L2.My.obK) (M := 12000) (loose := L2.My.looA ++ L2.My.looB) (d := HandSHeadRun.topDef (OpenLaw.row PySem.Challenge.rw_strangerspost_k09_whole_paths_and_resolu).prog 45) (kwd := []) L2.My.obK_eq
    (by kernel_rfl) (fun s => by kernel_rfl) L2.My.run (by kernel_rfl) (by kernel_rfl) (by kernel_rfl) (by rfl) (by first | assumption | decide +kernel) (by decide +kernel) ⟨rfl, rfl, rfl, rfl, rfl, by decide +kernel⟩ ?hw ?hc
  case hw => w_witness2
  case hc =>
    refine L2.My.walkG (l := PySem.Challenge.rw_strangerspost_k09_whole_paths_and_resolu) (n := 63) (k := 10) (x := "script") (sp := L2.My.spLaw) rfl (by decide) (by kernel_rfl) ⟨rfl, by decide, by decide⟩ ?F (fun K H a ns hS => ⟨a, ns, rfl, hS, fun _ => rfl⟩)
    intro w mg fa h Y G hmg0
    obtain ⟨K, KX, c⟩ := Y
    have hmg : mg ("law" : PySem.Str) = some (.ref fa) := by
      have e : (HandSHeadRun.topDef (OpenLaw.row PySem.Challenge.rw_strangerspost_k09_whole_paths_and_resolu).prog 45).name = ("law" : PySem.Str) := by kernel_rfl
      rw [← e]
      exact hmg0
    obtain ⟨fd, hb, hF⟩ := L2.My.facts (P := (PySem.Challenge.rw_strangerspost_k09_whole_paths_and_resolu).prog) (w := w) KX G hmg c
    exact ⟨K, fd, KX, hb, hF⟩

